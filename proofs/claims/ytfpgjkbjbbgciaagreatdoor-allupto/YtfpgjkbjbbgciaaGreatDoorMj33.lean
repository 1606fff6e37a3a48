import Derived.Test.YtfpgjkbjbbgciaaGreatDoorMj27
import Derived.Test.YtfpgjkbjbbgciaaGreatDoorMj30
import Derived.Test.YtfpgjkbjbbgciaaGreatDoorMj32
set_option maxRecDepth 100000
set_option maxHeartbeats 8000000
namespace Go.Proofs.YtfpgjkbjbbgciaaGreatDoor
open Go.RowKit Sp
theorem ziQ(w:World)(r o:Rg):TimesAt w ((((w.alloc (.cells #[.int .i64 r.lo,.int .i64 r.hi] 213)).alloc (.cells #[.int .i64 o.lo,.int .i64 o.hi] 213)).alloc (.cells #[.int .i64 0,.int .i64 0] 213)).alloc (.cells #[.int .i64 0,.int .i64 0,.int .i64 0,.int .i64 0] 304)) r o 0:=by
 have hs:((((w.alloc (.cells #[.int .i64 r.lo,.int .i64 r.hi] 213)).alloc (.cells #[.int .i64 o.lo,.int .i64 o.hi] 213)).alloc (.cells #[.int .i64 0,.int .i64 0] 213)).alloc (.cells #[.int .i64 0,.int .i64 0,.int .i64 0,.int .i64 0] 304)).heap.size=w.heap.size+1+1+1+1:=by simp
 refine⟨fun j hj=>?_,fun j=>World.frozen?_alloc_at _ _ _ _ (by simp),fun j hj=>?_,fun j=>(World.frozen?_alloc_past _ _ _ (by simp)).trans (zfo _ _ _ _ _ j),zbL,by omega,fun j hj=>by omega⟩
 ·rw [if_neg (by omega),zaA]
  match j,hj with
  | 0,_=>rfl
  | 1,_=>rfl
  | 2,_=>rfl
  | 3,_=>rfl
 ·rw [zaL]
  match j,hj with
  | 0,_=>rfl
  | 1,_=>rfl
theorem zbG{w w':World}(hb:qB w w'){b j:Nat}(hlt:b<w.heap.size)(h:w.frozen? ⟨b,j,none⟩=false):w'.frozen? ⟨b,j,none⟩=false:=(World.frozen?_of_block (w:=w) (a:=⟨b,j,none⟩) (hb.block b hlt)).trans h
theorem zkc(x0 x1 x2 x3 x4 x5 x6 x7:Int)(W:World):(Instr.index 306 (.agg #[.int .i64 x0,.int .i64 x1,.int .i64 x2,.int .i64 x3,.int .i64 x4,.int .i64 x5,.int .i64 x6,.int .i64 x7]) (.int .i64 0)).run Tryz.prog W=.ok (.agg #[.int .i64 x0,.int .i64 x1]) W:=by kernel_rfl
theorem zkd(x0 x1 x2 x3 x4 x5 x6 x7:Int)(W:World):(Instr.index 306 (.agg #[.int .i64 x0,.int .i64 x1,.int .i64 x2,.int .i64 x3,.int .i64 x4,.int .i64 x5,.int .i64 x6,.int .i64 x7]) (.int .i64 1)).run Tryz.prog W=.ok (.agg #[.int .i64 x2,.int .i64 x3]) W:=by kernel_rfl
theorem zke(x0 x1 x2 x3 x4 x5 x6 x7:Int)(W:World):(Instr.index 306 (.agg #[.int .i64 x0,.int .i64 x1,.int .i64 x2,.int .i64 x3,.int .i64 x4,.int .i64 x5,.int .i64 x6,.int .i64 x7]) (.int .i64 2)).run Tryz.prog W=.ok (.agg #[.int .i64 x4,.int .i64 x5]) W:=by kernel_rfl
theorem zkf(x0 x1 x2 x3 x4 x5 x6 x7:Int)(W:World):(Instr.index 306 (.agg #[.int .i64 x0,.int .i64 x1,.int .i64 x2,.int .i64 x3,.int .i64 x4,.int .i64 x5,.int .i64 x6,.int .i64 x7]) (.int .i64 3)).run Tryz.prog W=.ok (.agg #[.int .i64 x6,.int .i64 x7]) W:=by kernel_rfl
theorem zzS(a b c d:Int)(w:World)(hr:(⟨a,b⟩:Rg).Ok)(ho:(⟨c,d⟩:Rg).Ok)(hn:(a == b)=false∨((a == b)=true∧(c == d)=false)):qC 245 #[rv (⟨a,b⟩:Rg),rv (⟨c,d⟩:Rg)] w (qR w (rv ((⟨a,b⟩:Rg).times (⟨c,d⟩:Rg)))):=by
 have u:¬((⟨a,b⟩:Rg).lo=(⟨a,b⟩:Rg).hi∧(⟨c,d⟩:Rg).lo=(⟨c,d⟩:Rg).hi):=fun h=>by
  rcases hn with t|⟨_,t⟩
  ·simp at t;exact t h.1
  ·simp at t;exact t h.2
 have P:=ziQ w (⟨a,b⟩:Rg) (⟨c,d⟩:Rg);have hb5:∀ a b W,(Instr.build 305 #[(0,.int .i64 a),(1,.int .i64 b)]).run Tryz.prog W=.ok (.agg #[.int .i64 a,.int .i64 b]) W:=fun a b W=>run_build W 305 _ _ (by kernel_rfl);have hb6:∀ a b c d W,(Instr.build 306 #[(0,.agg #[.int .i64 a,.int .i64 b]),(1,.agg #[.int .i64 a,.int .i64 d]),(2,.agg #[.int .i64 c,.int .i64 b]),(3,.agg #[.int .i64 c,.int .i64 d])]).run Tryz.prog W=.ok (.agg #[.int .i64 a,.int .i64 b,.int .i64 a,.int .i64 d,.int .i64 c,.int .i64 b,.int .i64 c,.int .i64 d]) W:=fun a b c d W=>run_build W 306 _ _ (by kernel_rfl);have hx0:=zkc;have hx1:=zkd;have hx2:=zke;have hx3:=zkf;rcases hn with Y|⟨t0,Y⟩
 all_goals
  go_enter Tryz.func245,Tryz.ntmps245;go_wp2;change TimesAt w ((((w.alloc (.cells #[.int .i64 a,.int .i64 b] 213)).alloc (.cells #[.int .i64 c,.int .i64 d] 213)).alloc (.cells #[.int .i64 0,.int .i64 0] 213)).alloc (.cells #[.int .i64 0,.int .i64 0,.int .i64 0,.int .i64 0] 304)) _ _ _ at P;generalize (((w.alloc (.cells #[.int .i64 a,.int .i64 b] 213)).alloc (.cells #[.int .i64 c,.int .i64 d] 213)).alloc (.cells #[.int .i64 0,.int .i64 0] 213)).alloc (.cells #[.int .i64 0,.int .i64 0,.int .i64 0,.int .i64 0] 304)=Ws at P
  go_loopw [47] (fun ti wr=>∃ k:Nat,k≤4∧ti=.int .i64 (k:Int)∧TimesAt w wr (⟨a,b⟩:Rg) (⟨c,d⟩:Rg) k) (fun ti _=>4-(intOf ti).toNat)
  case atStart=>exact⟨0,by omega,rfl,P⟩
  case round =>
   obtain⟨k,hk,rfl,Z⟩:=hrel;by_cases hlt:k<4
   ·have J:k=0∨k=1∨k=2∨k=3:=by omega
    have p:=zi9;rcases J with rfl|rfl|rfl|rfl
    ·have i:=fun W=>zdu a c W;have g:=Z.alloc (.cells #[.int .i64 a,.int .i64 c] 305);have K:=g.cells 0 (by omega);have I:=g.fz 0;cases hwq:zbJ a c with
     | true =>
      have M:=zcu (r:=(⟨a,b⟩:Rg)) (o:=(⟨c,d⟩:Rg)) u (k:=0) (by omega) hwq;rw [hwq] at i;have z:=g.res 0 (by omega);have v:=g.res 1 (by omega);have C:=g.rz 0;have D:=g.rz 1;have m:=g.low;have H:=g.size;clear Z g K I;go_wp2_with(first|(go_at_call 246;(with_reducible refine(i _).mono ?_);rintro e A ⟨rfl,l⟩;have n:=l.symm;subst n)|(go_at_call 238;(with_reducible refine(p _).mono ?_);rintro e R ⟨rfl,f⟩;have s:=zap f z;have q:=zap f v;have Q:=zbG f (by omega) C;have O:=zbG f (by omega) D))
      exact zbK (r:=anyR) Tryz.results245 rfl rfl (zay s q).1 (zay s q).2 ⟨by rw [M],za4 (m.trans (f.mono m.size)) (by omega)⟩
     | false =>
      rw [hwq] at i;have L:=g.put (by omega) hwq;clear Z;go_wp2_with(go_at_call 246;(with_reducible refine(i _).mono ?_);rintro e A ⟨rfl,l⟩;have n:=l.symm;subst n)
      go_roundw
      case rel=>exact⟨1,by omega,rfl,L⟩
      case measure=>simp [intOf]
    ·have i:=fun W=>zdu a d W;have g:=Z.alloc (.cells #[.int .i64 a,.int .i64 d] 305);have K:=g.cells 1 (by omega);have I:=g.fz 1;cases hwq:zbJ a d with
     | true =>
      have M:=zcu (r:=(⟨a,b⟩:Rg)) (o:=(⟨c,d⟩:Rg)) u (k:=1) (by omega) hwq;rw [hwq] at i;have z:=g.res 0 (by omega);have v:=g.res 1 (by omega);have C:=g.rz 0;have D:=g.rz 1;have m:=g.low;have H:=g.size;clear Z g K I;go_wp2_with(first|(go_at_call 246;(with_reducible refine(i _).mono ?_);rintro e A ⟨rfl,l⟩;have n:=l.symm;subst n)|(go_at_call 238;(with_reducible refine(p _).mono ?_);rintro e R ⟨rfl,f⟩;have s:=zap f z;have q:=zap f v;have Q:=zbG f (by omega) C;have O:=zbG f (by omega) D))
      exact zbK (r:=anyR) Tryz.results245 rfl rfl (zay s q).1 (zay s q).2 ⟨by rw [M],za4 (m.trans (f.mono m.size)) (by omega)⟩
     | false =>
      rw [hwq] at i;have L:=g.put (by omega) hwq;clear Z;go_wp2_with(go_at_call 246;(with_reducible refine(i _).mono ?_);rintro e A ⟨rfl,l⟩;have n:=l.symm;subst n)
      go_roundw
      case rel=>exact⟨2,by omega,rfl,L⟩
      case measure=>simp [intOf]
    ·have i:=fun W=>zdu b c W;have g:=Z.alloc (.cells #[.int .i64 b,.int .i64 c] 305);have K:=g.cells 2 (by omega);have I:=g.fz 2;cases hwq:zbJ b c with
     | true =>
      have M:=zcu (r:=(⟨a,b⟩:Rg)) (o:=(⟨c,d⟩:Rg)) u (k:=2) (by omega) hwq;rw [hwq] at i;have z:=g.res 0 (by omega);have v:=g.res 1 (by omega);have C:=g.rz 0;have D:=g.rz 1;have m:=g.low;have H:=g.size;clear Z g K I;go_wp2_with(first|(go_at_call 246;(with_reducible refine(i _).mono ?_);rintro e A ⟨rfl,l⟩;have n:=l.symm;subst n)|(go_at_call 238;(with_reducible refine(p _).mono ?_);rintro e R ⟨rfl,f⟩;have s:=zap f z;have q:=zap f v;have Q:=zbG f (by omega) C;have O:=zbG f (by omega) D))
      exact zbK (r:=anyR) Tryz.results245 rfl rfl (zay s q).1 (zay s q).2 ⟨by rw [M],za4 (m.trans (f.mono m.size)) (by omega)⟩
     | false =>
      rw [hwq] at i;have L:=g.put (by omega) hwq;clear Z;go_wp2_with(go_at_call 246;(with_reducible refine(i _).mono ?_);rintro e A ⟨rfl,l⟩;have n:=l.symm;subst n)
      go_roundw
      case rel=>exact⟨3,by omega,rfl,L⟩
      case measure=>simp [intOf]
    ·have i:=fun W=>zdu b d W;have g:=Z.alloc (.cells #[.int .i64 b,.int .i64 d] 305);have K:=g.cells 3 (by omega);have I:=g.fz 3;cases hwq:zbJ b d with
     | true =>
      have M:=zcu (r:=(⟨a,b⟩:Rg)) (o:=(⟨c,d⟩:Rg)) u (k:=3) (by omega) hwq;rw [hwq] at i;have z:=g.res 0 (by omega);have v:=g.res 1 (by omega);have C:=g.rz 0;have D:=g.rz 1;have m:=g.low;have H:=g.size;clear Z g K I;go_wp2_with(first|(go_at_call 246;(with_reducible refine(i _).mono ?_);rintro e A ⟨rfl,l⟩;have n:=l.symm;subst n)|(go_at_call 238;(with_reducible refine(p _).mono ?_);rintro e R ⟨rfl,f⟩;have s:=zap f z;have q:=zap f v;have Q:=zbG f (by omega) C;have O:=zbG f (by omega) D))
      exact zbK (r:=anyR) Tryz.results245 rfl rfl (zay s q).1 (zay s q).2 ⟨by rw [M],za4 (m.trans (f.mono m.size)) (by omega)⟩
     | false =>
      rw [hwq] at i;have L:=g.put (by omega) hwq;clear Z;go_wp2_with(go_at_call 246;(with_reducible refine(i _).mono ?_);rintro e A ⟨rfl,l⟩;have n:=l.symm;subst n)
      go_roundw
      case rel=>exact⟨4,by omega,rfl,L⟩
      case measure=>simp [intOf]
   ·obtain rfl:k=4:=by omega
    have M:=ziP hr ho u Z.no;have V:wr.cell? ⟨w.heap.size+1+1+1,0,none⟩=some (.int .i64 (wrap64 (a*c))):=Z.cells 0 (by omega);have S:wr.cell? ⟨w.heap.size+1+1+1,1,none⟩=some (.int .i64 (wrap64 (a*d))):=Z.cells 1 (by omega);have U:wr.cell? ⟨w.heap.size+1+1+1,2,none⟩=some (.int .i64 (wrap64 (b*c))):=Z.cells 2 (by omega);have T:wr.cell? ⟨w.heap.size+1+1+1,3,none⟩=some (.int .i64 (wrap64 (b*d))):=Z.cells 3 (by omega);have G:∀ j (h:j<[wrap64 (a*c),wrap64 (a*d),wrap64 (b*c),wrap64 (b*d)].length),wr.cell? ⟨w.heap.size+1+1+1,j,none⟩=some (.int .i64 [wrap64 (a*c),wrap64 (a*d),wrap64 (b*c),wrap64 (b*d)][j]):=fun j hj=>by
     match j,hj with
     | 0,_=>exact V
     | 1,_=>exact S
     | 2,_=>exact U
     | 3,_=>exact T
    have F:qC 247 #[.slice (some ⟨w.heap.size+1+1+1,0,none⟩) 4 4] wr.drew fun e w'=>e=.returned (.int .i64 (zfL [wrap64 (a*c),wrap64 (a*d),wrap64 (b*c),wrap64 (b*d)] 3))∧w'=wr.drew:=zp4 wr.drew (w.heap.size+1+1+1) 4 [wrap64 (a*c),wrap64 (a*d),wrap64 (b*c),wrap64 (b*d)] (by simp) (by simp) G;have B:qC 248 #[.slice (some ⟨w.heap.size+1+1+1,0,none⟩) 4 4] wr.drew fun e w'=>e=.returned (.int .i64 (zfM [wrap64 (a*c),wrap64 (a*d),wrap64 (b*c),wrap64 (b*d)] 3))∧w'=wr.drew:=zp5 wr.drew (w.heap.size+1+1+1) 4 [wrap64 (a*c),wrap64 (a*d),wrap64 (b*c),wrap64 (b*d)] (by simp) (by simp) G;have z:=Z.res 0 (by omega);have v:=Z.res 1 (by omega);have C:=Z.rz 0;have D:=Z.rz 1;have m:=Z.low;have N:=zcz (zfL [wrap64 (a*c),wrap64 (a*d),wrap64 (b*c),wrap64 (b*d)] 3) (zfM [wrap64 (a*c),wrap64 (a*d),wrap64 (b*c),wrap64 (b*d)] 3);clear Z G V S U T;generalize zfL [wrap64 (a*c),wrap64 (a*d),wrap64 (b*c),wrap64 (b*d)] 3=x at F N M;generalize zfM [wrap64 (a*c),wrap64 (a*d),wrap64 (b*c),wrap64 (b*d)] 3=y at B N M;go_wp2;go_region_held3 (fun _=>True)
     (trivial)
     (first|(go_at_call 247;(with_reducible refine F.mono ?_);rintro e A ⟨rfl,l⟩;have n:=l.symm;subst n)|(go_at_call 248;(with_reducible refine B.mono ?_);rintro e A ⟨rfl,l⟩;have n:=l.symm;subst n))
    go_wp2;exact zbK (r:=⟨x,y⟩) Tryz.results245 rfl rfl (zay (X:=wr.drew) z v).1 (zay (X:=wr.drew) z v).2 ⟨by rw [M],za4 m.drew (by omega)⟩
def zcc(s:Int):Bool:=bits BinOp.and IntKind.i64 s (s-1) == 0
theorem zcV{w:World}{S o:Nat}{s:Int}(hc:w.cell? ⟨S,o+1,none⟩=some (.int .i64 s))(h0:0≤s)(h1:s≤100000):qC 167 #[.pointer (some ⟨S,o,none⟩)] w (qR w (.bool (zcc s))):=by
 have d:S<w.heap.size:=World.block_lt_of_cell? w _ hc;have c:∀ W,qB w W→W.cell? ⟨S,o+1,none⟩=some (.int .i64 s):=fun W b=>(World.cell?_of_block (a:=⟨S,o+1,none⟩) (b.block S d)).trans hc;go_enter Tryz.func167,Tryz.ntmps167;go_wp2;refine zaf 11 (fun W=>qB w W) (Below.refl _ _).drew (by kernel_rfl) (by kernel_rfl) ?_;simp only [q2];iterate 11 (refine zab rfl ?_ (fun W b=>?_) ?_;rotate_left 1;· (have f1:=c W b;go_simp;with_reducible rfl))
 refine wpQuiet_nil ?_;intro W b;go_wp2;go_ret;exact⟨rfl,b⟩
structure Mk where
 ao:Option Addr
 cap:Nat
 k:Kn
def zbj(bv:Value)(k:Kn):List Value:=rgs k.regs 8++(rgs k.cells 16++[.int .i64 k.next,bv,.int .i64 k.steps])
theorem zdF(bv:Value)(k:Kn):(zbj bv k).length=51:=by simp [zbj,zdT]
def Mk.cells(m:Mk):List Value:=zbj (.slice m.ao m.k.behind.length m.cap) m.k
def zb1(ms:List Mk):List Value:=ms.flatMap Mk.cells
theorem zm4(ms:List Mk)(m:Mk):zb1 (ms++[m])=zb1 ms++m.cells:=by simp [zb1]
theorem zrt{ms:List Mk}{i:Nat}{m:Mk}(h:ms[i]?=some m)(j:Nat)(hj:j<51):(zb1 ms)[51*i+j]?=m.cells[j]?:=by
 induction ms generalizing i with
 | nil=>simp at h
 | cons x t ih =>
  show(x.cells++zb1 t)[51*i+j]?=_;have a:x.cells.length=51:=zdF _ _;cases i with
  | zero =>
   cases h;rw [Nat.mul_zero,Nat.zero_add,List.getElem?_append_left (by omega)]
  | succ i =>
   rw [List.getElem?_append_right (by omega),a,show 51*(i+1)+j-51=51*i+j by omega];exact ih (by simpa using h)
theorem ziL{w:World}{b o:Nat}{bv:Value}{k:Kn}(h:∀ j,j<51→w.cell? ⟨b,o+j,none⟩=(zbj bv k)[j]?):KnR w b o bv k:=by
 have a:=zdT k.regs 8;have e:=zdT k.cells 16;have d:∀ j,j<3→(zbj bv k)[48+j]?=[Value.int .i64 k.next,bv,.int .i64 k.steps][j]?:=fun j hj=>by
  unfold zbj;rw [List.getElem?_append_right (by omega),List.getElem?_append_right (by omega),a,e,show 48+j-8*2-16*2=j by omega]
 have r:∀ r,r<8→(zbj bv k)[r*2]?=some (.int .i64 (k.regs r).lo)∧(zbj bv k)[r*2+1]?=some (.int .i64 (k.regs r).hi):=fun r hr=>by
  unfold zbj;rw [List.getElem?_append_left (by omega),List.getElem?_append_left (by omega)];exact zmt _ _ _ hr
 have c:∀ c,c<16→(zbj bv k)[16+c*2]?=some (.int .i64 (k.cells c).lo)∧(zbj bv k)[16+c*2+1]?=some (.int .i64 (k.cells c).hi):=fun c hc=>by
  unfold zbj;refine⟨?_,?_⟩
  ·rw [List.getElem?_append_right (by omega),List.getElem?_append_left (by omega),a,show 16+c*2-8*2=c*2 by omega];exact(zmt _ _ _ hc).1
  ·rw [List.getElem?_append_right (by omega),List.getElem?_append_left (by omega),a,show 16+c*2+1-8*2=c*2+1 by omega];exact(zmt _ _ _ hc).2
 exact⟨fun x hx=>⟨(h _ (by omega)).trans (r x hx).1,(h _ (by omega)).trans (r x hx).2⟩,fun x hx=>⟨(h _ (by omega)).trans (c x hx).1,(h _ (by omega)).trans (c x hx).2⟩,(h 48 (by omega)).trans (d 0 (by omega)),(h 49 (by omega)).trans (d 1 (by omega)),(h 50 (by omega)).trans (d 2 (by omega))⟩
theorem KnM.cells'{w:World}{b:Nat}{bv:Value}{k:Kn}(h:KnM w b bv k):w.rangeAt b 0 (zbj bv k):=by
 have d:=zdT k.regs 8;have c:=zdT k.cells 16;intro j v a;rw [Nat.zero_add];have f:=(List.getElem?_eq_some_iff.1 a).1;rw [zdF] at f;unfold zbj at a;by_cases h1:j<16
 ·rw [List.getElem?_append_left (by omega)] at a;have:=h.rowR j v a;rw [Nat.zero_add] at this;exact this
 ·rw [List.getElem?_append_right (by omega),d] at a;by_cases h2:j<48
  ·rw [List.getElem?_append_left (by omega)] at a;have:=h.rowC (j-8*2) v a;rw [show 16+(j-8*2)=j by omega] at this;exact this
  ·rw [List.getElem?_append_right (by omega),c] at a;rcases(by omega:j=48∨j=49∨j=50) with e|e|e
   ·subst e;cases a;exact h.cN
   ·subst e;cases a;exact h.cB
   ·subst e;cases a;exact h.cS
theorem zoa{ao:Option Addr}{n cap:Nat}{k:Kn}:∀ v∈zbj (.slice ao n cap) k,v.oneCell'=true:=by
 intro v b;unfold zbj at b;rcases List.mem_append.1 b with h|h
 ·exact zue _ _ v h
 ·rcases List.mem_append.1 h with h|h
  ·exact zue _ _ v h
  ·simp only [List.mem_cons,List.not_mem_nil,or_false] at h;rcases h with rfl|rfl|rfl <;> rfl
theorem zhD{w wx:World}{o:Obj}{cs:Array Value}{t:TypeId}(hbx:Below ((w.alloc o).alloc (.cells cs t)).heap.size ((w.alloc o).alloc (.cells cs t)) wx)(j:Nat):wx.frozen? ⟨w.heap.size+1,j,none⟩=false:=by
 have e:=World.frozen?_of_block (a:=⟨w.heap.size+1,j,none⟩) (hbx.block (w.heap.size+1) (by simp));rw [e];exact World.frozen?_alloc_at _ _ _ _ (by simp)
theorem zkh{w wx:World}{o:Obj}{cs:Array Value}{t:TypeId}(hbx:Below ((w.alloc (.cells cs t)).alloc o).heap.size ((w.alloc (.cells cs t)).alloc o) wx)(j:Nat):wx.cell? ⟨w.heap.size,j,none⟩=cs[j]? :=
 (World.cell?_of_block (a:=⟨w.heap.size,j,none⟩) ((hbx.block w.heap.size (by simp;omega)).trans (Below.heap_alloc _ _ _ (by simp)))).trans (World.cell?_alloc_new _ _ _ j)
def subR(k:Kn)(s t:Nat):Rg:=if s=t then only 0 else(k.regs s).minus (k.regs t)
theorem zu9{w:World}{b:Nat}{k:Kn}(r s:Nat):qC 241 #[.agg #[.int .i64 (r:Int),.int .i64 (s:Int),.int .i64 (s:Int)],.pointer (some ⟨b,0,none⟩)] w (qR w (rv (subR k s s))):=by
 have e0:subR k s s=only 0:=if_pos rfl;rw [e0];go_enter Tryz.func241,Tryz.ntmps241;go_wp2_with(go_at_call 226;(with_reducible refine(zhB 0 _).mono ?_);rintro e d ⟨rfl,a⟩;have f:d.cell? ⟨w.heap.size+1,0,none⟩=some (.int .i64 0):=zdN a 0;have c:d.cell? ⟨w.heap.size+1,1,none⟩=some (.int .i64 0):=zdN a 1;have z0:=zhD a 0;have z1:=zhD a 1)
 exact zbK (r:=only 0) Tryz.results241 rfl rfl (zay f c).1 (zay f c).2 ⟨rfl,za4 (box2.trans (a.mono (by simp;omega))) (by omega)⟩
theorem zr4{w:World}{b:Nat}{bv:Value}{k:Kn}(h:KnM w b bv k)(r s:Nat)(hs:s<8)(t:Nat)(ht:t<8)(hne:¬s=t):qC 241 #[.agg #[.int .i64 (r:Int),.int .i64 (s:Int),.int .i64 (t:Int)],.pointer (some ⟨b,0,none⟩)] w (qR w (rv (subR k s t))):=by
 have e0:subR k s t=(k.regs s).minus (k.regs t):=if_neg hne;rw [e0];have hlt:=h.lt;have s0:(0:Int)≤(s:Int):=by omega
 have s1:(s:Int)<8:=by omega
 have u0:(0:Int)≤(t:Int):=by omega
 have u1:(t:Int)<8:=by omega
 have t0:((s:Int) == (t:Int))=false:=by simpa using (by omega:¬(s:Int)=(t:Int))
 obtain⟨A,c⟩:∃ A,(w.alloc (.cells #[.int .i64 (r:Int),.int .i64 (s:Int),.int .i64 (t:Int)] 172)).alloc (.cells #[.int .i64 0,.int .i64 0] 213)=A:=⟨_,rfl⟩
 have i:∀ W,qB A W→KnM W b bv k:=fun W a=>by subst c;exact((h.alloc _).alloc _).below a (by simp;omega)
 have m:∀ W,qB A W→W.cell? ⟨w.heap.size+1,0,none⟩=some (.int .i64 0)∧W.cell? ⟨w.heap.size+1,1,none⟩=some (.int .i64 0)∧W.frozen? ⟨w.heap.size+1,0,none⟩=false∧W.frozen? ⟨w.heap.size+1,1,none⟩=false:=fun W a=>by subst c;exact⟨zdN a 0,zdN a 1,zhD a 0,zhD a 1⟩
 have n:∀ W,qB A W→qB w W:=fun W a=>by subst c;exact box2.trans (a.mono (by simp;omega))
 have l:∀ W,qB A W→(W.cell? ⟨w.heap.size,1,none⟩=some (.int .i64 (s:Int))∧W.cell? ⟨w.heap.size,2,none⟩=some (.int .i64 (t:Int)))∧(W.cell? ⟨b,s*2,none⟩=some (.int .i64 (k.regs s).lo)∧W.cell? ⟨b,s*2+1,none⟩=some (.int .i64 (k.regs s).hi))∧(W.cell? ⟨b,t*2,none⟩=some (.int .i64 (k.regs t).lo)∧W.cell? ⟨b,t*2+1,none⟩=some (.int .i64 (k.regs t).hi)):=fun W a =>
  ⟨by subst c;exact⟨zkh a 1,zkh a 2⟩,(i W a).cR s hs,(i W a).cR t ht⟩
 obtain⟨⟨d,g⟩,_⟩:=l A (Below.refl _ _);go_enter Tryz.func241,Tryz.ntmps241;go_wp2;refine zaf 15 (fun W=>qB A W) (Below.refl _ _).drew (by kernel_rfl) (by kernel_rfl) ?_;simp only [q2];clear d g;repeat(refine zab rfl ?_ (fun W a=>?_) ?_;rotate_left 1;· (obtain⟨⟨f0,d⟩,⟨g,f3⟩,f4,f5⟩:=l W a;go_simp;with_reducible rfl))
 refine zaU rfl 242 #[rv (k.regs s),rv (k.regs t)] (rv ((k.regs s).minus (k.regs t))) (fun W a=>?_) (fun W a=>(zu1 _ _ W).mono (fun e w' hh=>⟨hh.1,a.trans (hh.2.mono a.size)⟩)) ?_
 ·go_simp
 refine wpQuiet_nil ?_;intro W a;obtain⟨j,f,z0,z1⟩:=m W a;go_wp2;exact zbK (r:=(k.regs s).minus (k.regs t)) Tryz.results241 rfl rfl (zay j f).1 (zay j f).2 ⟨rfl,za4 (n W a) (by omega)⟩
theorem zwU{w:World}{b:Nat}{bv:Value}{k:Kn}(h:KnM w b bv k)(r s:Nat)(hs:s<8)(t:Nat)(ht:t<8):qC 241 #[.agg #[.int .i64 (r:Int),.int .i64 (s:Int),.int .i64 (t:Int)],.pointer (some ⟨b,0,none⟩)] w (qR w (rv (subR k s t))):=by
 by_cases e:s=t
 ·subst e;exact zu9 r s
 ·exact zr4 h r s hs t ht e
def znX(w:World)(k o:Kn):Ending→World→Prop:=fun e w'=>∃ x:Bool,e=.returned (.bool x)∧qB w w'∧(x=true→keyK k≤keyK o)∧(x=false→keyK o≤keyK k)
def zwE(w:World)(k o:Kn):Ending→World→Prop:=fun e w'=>∃ x:Bool,e=.returned (.bool x)∧qB w w'∧(x=true→k.next=o.next∧k.behind=o.behind∧k.steps=o.steps)∧(x=false→¬(k.next=o.next∧k.behind=o.behind∧k.steps=o.steps))
theorem ziJ{w:World}{b c b1 c1:Nat}{a1 a2:Option Addr}{k o:Kn}(h:KnM w b (.slice a1 k.behind.length b1) k)(h2:KnM w c (.slice a2 o.behind.length c1) o)(B1:BhM w a1 b1 k.behind)(B2:BhM w a2 c1 o.behind)(K1:KeyOk k)(K2:KeyOk o):qC 291 #[.pointer (some ⟨b,0,none⟩),.pointer (some ⟨c,0,none⟩)] w (znX w k o):=by
 obtain⟨f,d,a⟩:=znW K1 K2;have i:Hid ((cmpK k o<0→keyK k<keyK o)∧(cmpK k o=0→k.next=o.next∧k.behind=o.behind∧k.steps=o.steps)∧(0<cmpK k o→keyK o<keyK k)):=⟨f,d,a⟩
 have m:Hid (k.next=o.next∧k.behind=o.behind∧k.steps=o.steps→keyK k=keyK o):=fun h=>by unfold keyK;rw [h.1,h.2.1,h.2.2]
 clear f d a;go_enter Tryz.func291,Tryz.ntmps291;go_wp2_with(go_at_call 155;(with_reducible refine(zhp h h2 B1 B2).mono ?_);rintro e wx ⟨rfl,g⟩)
 go_ret;obtain⟨p,l,n⟩:=i.out;refine⟨_,rfl,g,fun e=>?_,fun e=>?_⟩
 ·have h:cmpK k o<0:=by simpa using e
  have:=p h;omega
 ·have h:¬cmpK k o<0:=by simpa using e
  by_cases j:cmpK k o=0
  ·have:=m.out (l j);omega
  ·have:=n (by omega);omega
theorem zro{w:World}{b c b1 c1:Nat}{a1 a2:Option Addr}{k o:Kn}(h:KnM w b (.slice a1 k.behind.length b1) k)(h2:KnM w c (.slice a2 o.behind.length c1) o)(B1:BhM w a1 b1 k.behind)(B2:BhM w a2 c1 o.behind)(K1:KeyOk k)(K2:KeyOk o):qC 141 #[.pointer (some ⟨b,0,none⟩),.pointer (some ⟨c,0,none⟩)] w (zwE w k o):=by
 obtain⟨g,a,d⟩:=znW K1 K2;have i:Hid ((cmpK k o=0→k.next=o.next∧k.behind=o.behind∧k.steps=o.steps)∧(k.next=o.next∧k.behind=o.behind∧k.steps=o.steps→cmpK k o=0)):=⟨a,fun h=>zuo h.1 h.2.1 h.2.2⟩
 clear g a d;go_enter Tryz.func141,Tryz.ntmps141;go_wp2_with(go_at_call 155;(with_reducible refine(zhp h h2 B1 B2).mono ?_);rintro e wx ⟨rfl,f⟩)
 go_ret;obtain⟨l,j⟩:=i.out;exact⟨_,rfl,f,fun e=>l (by simpa using e),fun e h=>by have:=j h;rw [this] at e;simp at e⟩
structure Wy where
 b:Nat
 ao:Option Addr
 cap:Nat
 k:Kn
def wy0:Wy:=⟨0,none,0,kn0⟩
structure WyM(w:World)(x:Wy):Prop where
 key:KeyOk x.k
 kn:KnM w x.b (.slice x.ao x.k.behind.length x.cap) x.k
 bh:BhM w x.ao x.cap x.k.behind
theorem WyM.below{w w':World}{x:Wy}(h:WyM w x)(hb:qB w w'):WyM w' x:=⟨h.key,h.kn.below hb h.kn.lt,h.bh.below hb⟩
structure HpM(w:World)(H C:Nat)(xs:List Wy):Prop where
 ptr:∀(i:Nat) (x:Wy),xs[i]?=some x→w.cell? ⟨H,i,none⟩=some (.pointer (some ⟨x.b,0,none⟩))
 wy:∀ x∈xs,WyM w x
 lt:H<w.heap.size
 far:∀ x∈xs,¬x.b=H∧∀ a,x.ao=some a→¬a.block=H
 fz:∀ j,w.frozen? ⟨H,j,none⟩=false
 shape:∃ cur:Array Value,w.heap[H]?=some (.cells cur 197 (0,0))∧cur.size=C
theorem HpM.below{w w':World}{H C:Nat}{xs:List Wy}(h:HpM w H C xs)(hb:qB w w'):HpM w' H C xs :=
 ⟨fun i x hx=>(World.cell?_of_block (a:=⟨H,i,none⟩) (hb.block H h.lt)).trans (h.ptr i x hx),fun x hx=>(h.wy x hx).below hb,Nat.lt_of_lt_of_le h.lt hb.size,h.far,fun j=>(World.frozen?_of_block (a:=⟨H,j,none⟩) (hb.block H h.lt)).trans (h.fz j),by obtain⟨cur,h1,h2⟩:=h.shape;exact⟨cur,(hb.block H h.lt).trans h1,h2⟩⟩
theorem HpM.at'{w:World}{H C:Nat}{xs:List Wy}(h:HpM w H C xs){i:Nat}(hi:i<xs.length):w.cell? ⟨H,i,none⟩=some (.pointer (some ⟨(xs.getD i wy0).b,0,none⟩))∧WyM w (xs.getD i wy0):=by
 have e:xs.getD i wy0=xs[i]:=by simp [List.getD,hi]
 rw [e];exact⟨h.ptr i _ (List.getElem?_eq_getElem hi),h.wy _ (List.getElem_mem hi)⟩
def stp(xs:List Wy)(i:Nat):Int:=keyK (xs.getD i wy0).k
theorem ziK (v:Value) (w:World):(method 422 197 v "Before").run Tryz.prog w=.ok (291,v) w:=by kernel_rfl
theorem zhq(args:Array Value)(w:World):(callFunc 291 args).run Tryz.prog w=.ok (.enter 291 args) w:=by kernel_rfl
def zm0(w:World)(xs:List Wy)(a:Nat):Ending→World→Prop:=fun e w'=>∃ m:Nat,e=.returned (.int .i64 (m:Int))∧qB w w'∧m<xs.length∧(m=a∨m=2*a+1∨m=2*a+2)∧stp xs m≤stp xs a∧(2*a+1<xs.length→stp xs m≤stp xs (2*a+1))∧(2*a+2<xs.length→stp xs m≤stp xs (2*a+2))
theorem zuq{w:World}{H C cap:Nat}{xs:List Wy}(h:HpM w H C xs)(a:Nat)(ha:a<xs.length)(hn:xs.length≤100000):qC 169 #[.slice (some ⟨H,0,none⟩) xs.length cap,.int .i64 (a:Int)] w (zm0 w xs a):=by
 have hmeth:=ziK;have hcf:=zhq;have a0:(0:Int)≤(a:Int):=by omega
 have a1:(a:Int)≤100000:=by omega
 go_enter Tryz.func169,Tryz.ntmps169;go_wp2
 go_loopw [5,6] (fun tl tb wr=>∃ m q:Nat,tl=.int .i64 (m:Int)∧tb=.int .i64 (q:Int)∧2*a+1≤q∧q≤2*a+3∧m<xs.length∧(m=a∨2*a+1≤m∧m<q)∧stp xs m≤stp xs a∧(∀ c,2*a+1≤c→c<q→c<xs.length→stp xs m≤stp xs c)∧qB w wr) (fun _ tb _=>2*a+3-(intOf tb).toNat)
 case atStart=>exact⟨a,2*a+1,rfl,by go_num,by omega,by omega,ha,.inl rfl,Int.le_refl _,fun c h1 h2=>by omega,Below.refl _ _⟩
 case round =>
  obtain⟨m,q,rfl,rfl,q0,q1,r,hmq,j,d,B⟩:=hrel;have m0:(0:Int)≤(m:Int):=by omega
  have m1:(m:Int)<(xs.length:Int):=by omega
  have p0:(0:Int)≤(q:Int):=by omega
  by_cases t:q≤2*a+2∧q<xs.length
  ·obtain⟨D,i⟩:=t;have n:(q:Int)≤2*(a:Int)+2:=by omega
   have s:(q:Int)<(xs.length:Int):=by omega
   have v:∀ W,qB w W→W.cell? ⟨H,q,none⟩=some (.pointer (some ⟨(xs.getD q wy0).b,0,none⟩))∧W.cell? ⟨H,m,none⟩=some (.pointer (some ⟨(xs.getD m wy0).b,0,none⟩)):=fun W f=>⟨((h.below f).at' i).1,((h.below f).at' r).1⟩
   have z:∀ W,qB w W→qC 291 #[.pointer (some ⟨(xs.getD q wy0).b,0,none⟩),.pointer (some ⟨(xs.getD m wy0).b,0,none⟩)] W (znX W (xs.getD q wy0).k (xs.getD m wy0).k):=fun W f=>by
    have u:=((h.below f).at' i).2;have y:=((h.below f).at' r).2;exact ziJ u.kn y.kn u.bh y.bh u.key y.key
   generalize p:xs.getD q wy0=xq at v z;generalize hxm:xs.getD m wy0=xm at v z;go_wp2;refine zaf 9 (fun W=>qB w W) B.drew (by kernel_rfl) (by kernel_rfl) ?_;simp only [q2];iterate 9 (refine zab rfl ?_ (fun W f=>?_) ?_;rotate_left 1;· (obtain⟨f1,f2⟩:=v W f;go_simp;with_reducible rfl))
   refine wpQuiet_nil ?_;intro W f;have A:=z W f;go_wp2_with(go_at_call 291;(with_reducible refine A.mono ?_);rintro e wx ⟨x,rfl,o,E,F⟩)
   ·rename_i hx;have l:stp xs q≤stp xs m:=by unfold stp;rw [hxm,p];exact E (by simpa using hx)
    refine⟨⟨q,q+1,rfl,by go_num,by omega,by omega,i,by omega,by omega,fun c c1 c2 c3=>?_,f.trans (o.mono f.size)⟩,by simp [intOf];omega⟩;by_cases e:c=q
    ·rw [e];exact Int.le_refl _
    ·have:=d c c1 (by omega) c3;omega
   ·rename_i hx;have l:stp xs m≤stp xs q:=by unfold stp;rw [hxm,p];exact F (by simpa using hx)
    refine⟨⟨m,q+1,rfl,by go_num,by omega,by omega,r,by omega,j,fun c c1 c2 c3=>?_,f.trans (o.mono f.size)⟩,by simp [intOf];omega⟩;by_cases e:c=q
    ·rw [e];exact l
    ·exact d c c1 (by omega) c3
  ·have g:zm0 w xs a (.returned (.int .i64 (m:Int))) wr:=⟨m,rfl,B,r,by omega,j,fun c=>d _ (by omega) (by omega) c,fun c=>d _ (by omega) (by omega) c⟩
   by_cases D:q≤2*a+2
   ·have n:(q:Int)≤2*(a:Int)+2:=by omega
    have i:¬q<xs.length:=by omega
    have s:decide ((q:Int)<(xs.length:Int))=false:=by simpa using i
    clear d;go_wp2;go_ret;exact g
   ·have n:decide ((q:Int)≤2*(a:Int)+2)=false:=by simpa using (by omega:¬(q:Int)≤2*(a:Int)+2)
    clear d;go_wp2;go_ret;exact g
theorem WyM.other{w:World}{x:Wy}{H n:Nat}{v:Value}(h:WyM w x)(h1:¬x.b=H)(h2:∀ a,x.ao=some a→¬a.block=H):WyM (w.setCell ⟨H,n,none⟩ v) x :=
 ⟨h.key,h.kn.block (Below.heap_setCell w _ _ x.b h1),h.bh.kept (by rw [World.size_setCell];exact Nat.le_refl _) (fun g e=>Below.heap_setCell w _ _ g (h2 _ e))⟩
theorem HpM.swap{w:World}{H C:Nat}{xs:List Wy}(h:HpM w H C xs){i j:Nat}(hi:i<xs.length)(hj:j<xs.length)(hne:¬i=j):
  HpM ((w.setCell ⟨H,i,none⟩ (.pointer (some ⟨(xs.getD j wy0).b,0,none⟩))).setCell ⟨H,j,none⟩ (.pointer (some ⟨(xs.getD i wy0).b,0,none⟩))) H C (ze3 wy0 xs i j):=by
 have r:=zgU (d:=wy0) hi hj;have g:∀ x,x∈ze3 wy0 xs i j→x∈xs:=fun x hx=>r.mem_iff.1 hx;refine⟨fun q x hx=>?_,fun x hx=>?_,by rw [World.size_setCell,World.size_setCell];exact h.lt,fun x hx=>h.far x (g x hx),fun q=>zbP _ _ _ _ _ (zbP _ _ _ _ _ (h.fz q)),?_⟩
 ·have l:q<(ze3 wy0 xs i j).length:=(List.getElem?_eq_some_iff.1 hx).1;have a:(ze3 wy0 xs i j).getD q wy0=x:=by simp [List.getD,hx]
  rw [zpy hi hj hne] at a;rw [zuk] at l;have n:(w.setCell ⟨H,i,none⟩ (.pointer (some ⟨(xs.getD j wy0).b,0,none⟩))).cell? ⟨H,j,none⟩=some (.pointer (some ⟨(xs.getD j wy0).b,0,none⟩)):=by
   rw [zat w H i j _ _ (h.at' hi).1,if_neg (fun e=>hne e.symm)];exact(h.at' hj).1
  rw [zat _ H j q _ _ n];by_cases c:q=j
  ·rw [if_pos c];rw [if_neg (fun e=>hne (e.symm.trans c)),if_pos c] at a;rw [a]
  ·rw [if_neg c,zat w H i q _ _ (h.at' hi).1];by_cases f:q=i
   ·rw [if_pos f];rw [if_pos f] at a;rw [a]
   ·rw [if_neg f];rw [if_neg f,if_neg c] at a;rw [←a];exact(h.at' l).1
 ·obtain⟨k,m⟩:=h.far x (g x hx);exact((h.wy x (g x hx)).other k m).other k m
 ·obtain⟨cur,o,p⟩:=h.shape;exact⟨_,heap_setCell_same _ H j _ 197 _ (heap_setCell_same _ H i _ 197 _ o),by simpa using p⟩
theorem HpM.drew{w:World}{H C:Nat}{xs:List Wy}(h:HpM w H C xs):HpM w.drew H C xs:=h.below (Below.refl _ _).drew
def zkO(w:World)(H C:Nat)(xs:List Wy):Ending→World→Prop:=fun e w'=>e=.returned (.tuple #[])∧∃ ys,ys.Perm xs∧HpM w' H C ys∧HpAll (stp ys) ys.length∧w.grownBy w' (some H)
theorem zwF{w:World}{H C cap n:Nat}{xs:List Wy}(h:HpM w H C xs)(hl:xs.length=n)(a:Nat)(ha:a<n)(hn:n≤100000)(hR:RiseI (stp xs) n a):qC 153 #[.slice (some ⟨H,0,none⟩) n cap,.int .i64 (a:Int)] w (zkO w H C xs):=by
 have hmeth:=ziK;have hcf:=zhq;have O:∃ c:List Wy,c.Perm xs∧HpM w H C c∧RiseI (stp c) n a∧w.grownBy w (some H):=⟨xs,List.Perm.refl _,h,hR,⟨rfl,rfl,rfl,Nat.le_refl _,fun _ _ _=>rfl⟩⟩
 have Q:Hid (xs.length=n):=hl;clear hl h hR;go_enter Tryz.func153,Tryz.ntmps153;go_wp2
 go_loopw [1] (fun ti wr=>∃ a:Nat,ti=.int .i64 (a:Int)∧a<n∧∃ c:List Wy,c.Perm xs∧HpM wr H C c∧RiseI (stp c) n a∧w.grownBy wr (some H)) (fun ti _=>(intOf ti).toNat)
 case atStart=>exact⟨a,rfl,ha,O⟩
 case round =>
  obtain⟨a,rfl,ha,c,A,l,hR,I⟩:=hrel;clear O;have hl:c.length=n:=A.length_eq.trans Q.out;by_cases S:a=0
  ·subst S;go_wp2;exact bodyPost_end (results_none rfl _ _ _) rfl ⟨rfl,c,A,l,by rw [hl];exact hR.done (.inl rfl),I⟩
  ·have h1:(0:Int)<(a:Int):=by omega
   have P:(((a:Int)-1).tdiv 2)=(((a-1)/2:Nat):Int):=by rw [Int.tdiv_eq_ediv_of_nonneg (by omega)];omega
   have y:(a-1)/2<n:=by omega
   generalize N:(a-1)/2=u at P y;have u0:(0:Int)≤(u:Int):=by omega
   have u1:(u:Int)<(n:Int):=by omega
   have a1:(a:Int)<(n:Int):=by omega
   have a2:(n:Int)≤100000:=by omega
   have i:a<c.length:=by omega
   have g:u<c.length:=by omega
   have s:¬a=u:=by omega
   have t:∀ W,qB wr W→W.cell? ⟨H,a,none⟩=some (.pointer (some ⟨(c.getD a wy0).b,0,none⟩))∧W.cell? ⟨H,u,none⟩=some (.pointer (some ⟨(c.getD u wy0).b,0,none⟩)):=fun W d=>⟨((l.below d).at' i).1,((l.below d).at' g).1⟩
   have B:∀ W,qB wr W→qC 291 #[.pointer (some ⟨(c.getD a wy0).b,0,none⟩),.pointer (some ⟨(c.getD u wy0).b,0,none⟩)] W (znX W (c.getD a wy0).k (c.getD u wy0).k):=fun W d=>by
    have E:=((l.below d).at' i).2;have L:=((l.below d).at' g).2;exact ziJ E.kn L.kn E.bh L.bh E.key L.key
   have z:∀ W,qB wr W→HpM ((W.setCell ⟨H,a,none⟩ (.pointer (some ⟨(c.getD u wy0).b,0,none⟩))).setCell ⟨H,u,none⟩ (.pointer (some ⟨(c.getD a wy0).b,0,none⟩))) H C (ze3 wy0 c a u):=fun W d=>(l.below d).swap i g s;have D:stp c a=keyK (c.getD a wy0).k:=rfl;have r:stp c u=keyK (c.getD u wy0).k:=rfl;have o:∀ W j,qB wr W→W.frozen? ⟨H,j,none⟩=false:=fun W j d=>(l.below d).fz j;generalize c.getD a wy0=xa at t B z D;generalize c.getD u wy0=xu at t B z r;go_wp2;refine zaf 9 (fun W=>qB wr W) (Below.refl _ _).drew (by kernel_rfl) (by kernel_rfl) ?_;simp only [q2];iterate 9 (refine zab rfl ?_ (fun W d=>?_) ?_;rotate_left 1;· (obtain⟨f1,f2⟩:=t W d;go_simp;with_reducible rfl))
   refine wpQuiet_nil ?_;intro W d;have M:=B W d;go_wp2_with(go_at_call 291;(with_reducible refine M.mono ?_);rintro e v ⟨x,rfl,J,R,T⟩;have q:qB wr v:=d.trans (J.mono d.size))
   ·have p:(!x)=true:=by assumption
    have K:x=false:=by simpa using p
    have f:stp c u≤stp c a:=by rw [D,r];exact T K
    rw [←N] at f;refine bodyPost_ret (results_none rfl _ _ _) rfl ⟨rfl,c,A,l.below q,by rw [hl];exact hR.done (.inr f),zag I (zaV q)⟩
   ·have p:(!x)=false:=by assumption
    have K:x=true:=by simpa using p
    obtain⟨c1,c2⟩:=t v q;have z1:=o v a q;have z2:=o v u q;have F:=z v q;have f:stp c a≤stp c u:=by rw [D,r];exact R K
    rw [←N] at f;have m:=hR.step (by omega) ha f;rw [N] at m;have G:RiseI (stp (ze3 wy0 c a u)) n u:=by
     have e:stp (ze3 wy0 c a u)=znU (stp c) a u:=zul i g s (fun x=>keyK x.k);rw [e];exact m
    clear t B z o f m
    go_region
    all_goals go_wp2
    all_goals exact⟨⟨u,rfl,y,ze3 wy0 c a u,(zgU i g).trans A,F.drew,G,zb6 (zag I (zag (zac q) (zac (Below.refl _ _))))⟩,by simp [intOf];omega⟩
def zjo(xs:List Wy):List Value:=xs.map fun x=>.pointer (some ⟨x.b,0,none⟩)
structure HeapM(w:World)(B:Nat)(v:Value)(xs:List Wy):Prop where
 row:w.ownsRow B 197 1 v xs.length (zjo xs)
 wy:∀ x∈xs,WyM w x
 far:∀ g,v.ownBlock=some g→∀ x∈xs,¬x.b=g∧∀ a,x.ao=some a→¬a.block=g
theorem HeapM.hp{w:World}{B H cap:Nat}{xs:List Wy}(h:HeapM w B (.slice (some ⟨H,0,none⟩) xs.length cap) xs):HpM w H cap xs∧xs.length≤cap∧cap≤maxLen∧B≤H:=by
 obtain⟨hl,k⟩:=h.row;rcases k with ⟨c,_⟩|⟨g,cap',d,c,e,b,f,l,h4,h5⟩
 ·cases c
 ·cases c;have a:H<w.heap.size:=by
   rcases Nat.lt_or_ge H w.heap.size with a|hge
   ·exact a
   ·rw [Array.getElem?_eq_none hge] at b;cases b
  refine⟨⟨fun i x hx=>zgt h.row i _ (by unfold zjo;rw [List.getElem?_map,hx];rfl),h.wy,a,h.far H rfl,fun j=>?_,⟨d,b,by omega⟩⟩,f,l,e⟩;simp [World.frozen?,b]
theorem HpM.heap{w:World}{B H cap:Nat}{xs:List Wy}(h:HpM w H cap xs)(h1:xs.length≤cap)(h2:cap≤maxLen)(hB:B≤H):HeapM w B (.slice (some ⟨H,0,none⟩) xs.length cap) xs:=by
 obtain⟨a,b,hs⟩:=h.shape;refine⟨⟨by simp [zjo],.inr ⟨H,cap,a,rfl,hB,b,h1,h2,by omega,?_⟩⟩,h.wy,fun g b=>by cases b;exact h.far⟩;apply List.ext_getElem?;intro i;by_cases c:i<xs.length
 ·rw [List.getElem?_take_of_lt (by omega)];have e:=h.ptr i xs[i] (List.getElem?_eq_getElem c);have e2:w.cell? ⟨H,i,none⟩=a[i]?:=by simp [World.cell?,b]
  rw [e2] at e;unfold zjo;rw [List.getElem?_map,List.getElem?_eq_getElem c];simpa using e
 ·rw [List.getElem?_eq_none (by simp;omega),List.getElem?_eq_none (by simp [zjo];omega)]
theorem Tryz.under151:Tryz.prog.underlying 151=some (.slice 197):=by kernel_rfl
theorem zrq{w:World}{H n cap p:Nat}(hn:0<n)(hc:w.cell? ⟨H,0,none⟩=some (.pointer (some ⟨p,0,none⟩))):qC 140 #[.slice (some ⟨H,0,none⟩) n cap] w fun e w'=>e=.returned (.pointer (some ⟨p,0,none⟩))∧w'=w:=by
 have hn1:(0:Int)<(n:Int):=by omega
 go_enter Tryz.func140,Tryz.ntmps140;go_wp2;go_ret;exact⟨rfl,rfl⟩
structure Kept2(w w':World)(S o:Nat)(hb:Option Nat):Prop where
 os:w'.os=w.os
 tape:w'.tape=w.tape
 output:w'.output=w.output
 size:w.heap.size≤w'.heap.size
 block:∀ q,q<w.heap.size→¬q=S→some q≠hb→w'.heap[q]?=w.heap[q]?
 cell:∀ j,¬j=o→w'.cell? ⟨S,j,none⟩=w.cell? ⟨S,j,none⟩
 fz:∀ j,w'.frozen? ⟨S,j,none⟩=w.frozen? ⟨S,j,none⟩
theorem zm1(w:World)(a:Value):∀ j u,[a][j]?=some u→(w.alloc (.cells #[a] 197)).cell? ((⟨w.heap.size,0,none⟩:Addr).add j)=some u:=by
 intro j u b;rw [Addr.add_mid,Nat.zero_add,World.cell?_alloc_new];cases j with
 | zero=>cases b;rfl
 | succ j=>simp at b
theorem WyM.grown{w w':World}{x:Wy}{r:Option Nat}(h:WyM w x)(hg:w.grownBy w' r)(f:∀ g,r=some g→¬x.b=g∧∀ a,x.ao=some a→¬a.block=g):WyM w' x :=
 ⟨h.key,h.kn.block (hg.block x.b h.kn.lt (fun e=>(f _ e.symm).1 rfl)),h.bh.kept hg.size (fun g e=>hg.block g (h.bh.cell g e).1 (fun e2=>(f _ e2.symm).2 _ e rfl))⟩
theorem zdj{w:World}{S o j:Nat}{v:Value}:(w.setCell ⟨S,o,none⟩ v).frozen? ⟨S,j,none⟩=w.frozen? ⟨S,j,none⟩:=by
 simp
def zyA(w:World)(S o B:Nat)(v:Value)(xs:List Wy)(x:Wy):Ending→World→Prop:=fun e w'=>e=.returned (.tuple #[])∧∃(H cap:Nat) (ys:List Wy),w'.cell? ⟨S,o,none⟩=some (.slice (some ⟨H,0,none⟩) ys.length cap)∧ys.Perm (xs++[x])∧HeapM w' B (.slice (some ⟨H,0,none⟩) ys.length cap) ys∧HpAll (stp ys) ys.length∧(v.ownBlock=some H∨w.heap.size≤H)∧Kept2 w w' S o v.ownBlock
theorem zwH{w:World}{S o B:Nat}{v:Value}{xs:List Wy}{x:Wy}(hc:w.cell? ⟨S,o,none⟩=some v)(hz:w.frozen? ⟨S,o,none⟩=false)(M:HeapM w B v xs)(hA:HpAll (stp xs) xs.length)(X:WyM w x)(hlen:xs.length<100000)(hB:B≤w.heap.size)(hvS:v.ownBlock≠some S)
  (hxf:∀ g,v.ownBlock=some g→¬x.b=g∧∀ a,x.ao=some a→¬a.block=g) (hS:∀ y∈xs++[x],¬y.b=S∧∀ a,y.ao=some a→¬a.block=S) :
  qC 138 #[.pointer (some ⟨S,o,none⟩),.pointer (some ⟨x.b,0,none⟩)] w (zyA w S o B v xs x):=by
 obtain⟨i0,P,V,Q,O⟩:=info_parts Tryz.info197;have C:S<w.heap.size:=World.block_lt_of_cell? w _ hc;have l:some S≠v.ownBlock:=fun e=>hvS e.symm;have hne:¬w.heap.size=S:=by omega
 go_enter Tryz.func138,Tryz.ntmps138;go_wp2_with(first
  | (at_builtin;refine wpList_append_lies _ rfl _ _ 151 rfl B 197 i0 (.pointer none) 1 8 Tryz.under151 P V Q O rfl (by decide) _ _ _ rfl (M.row.alloc _) ⟨w.heap.size,0,none⟩ 1 1 [.pointer (some ⟨x.b,0,none⟩)] rfl rfl (zm1 _ _) (by simp [Value.oneCell']) (by omega) (by unfold maxLen;omega) (by omega) (by simp;omega) (w.heap.size+1) (by simp) ?_))
 intro g cap c s r k hg4;have n:w.grownBy c v.ownBlock:=(World.grownBy_alloc w _ _).trans r;have A:¬S=g:=by
  rcases k with e|e
  ·intro L;exact hvS (by rw [e,L])
  ·omega
 have m:c.cell? ⟨S,o,none⟩=some v:=(World.cell?_of_block (a:=⟨S,o,none⟩) (n.block S C l)).trans hc;have hz4:c.frozen? ⟨S,o,none⟩=false:=(World.frozen?_of_block (a:=⟨S,o,none⟩) (n.block S C l)).trans hz;have d:∀ y∈xs++[x],∀ q,v.ownBlock=some q→¬y.b=q∧∀ a,y.ao=some a→¬a.block=q:=fun y hy q hq=>by
  rcases List.mem_append.1 hy with h|h
  ·exact M.far q hq y h
  ·rw [List.mem_singleton.1 h];exact hxf q hq
 have z:∀ y∈xs++[x],WyM w y:=fun y hy=>by
  rcases List.mem_append.1 hy with h|h
  ·exact M.wy y h
  ·rw [List.mem_singleton.1 h];exact X
 have t:∀ y∈xs++[x],¬y.b=g∧∀ a,y.ao=some a→¬a.block=g:=fun y hy=>by
  rcases k with e|e
  ·exact d y hy g e
  ·have E:=z y hy;refine⟨fun L=>?_,fun a ha L=>?_⟩
   ·have:=E.kn.lt;omega
   ·obtain⟨q,rfl⟩:=E.bh.at0 a ha;have:=(E.bh.cell q ha).1;have e3:q=g:=L;omega
 have J:zjo xs++[Value.pointer (some ⟨x.b,0,none⟩)]=zjo (xs++[x]):=by simp [zjo]
 have u:xs.length+1=(xs++[x]).length:=by simp
 have M4:HeapM c B (.slice (some ⟨g,0,none⟩) (xs++[x]).length cap) (xs++[x]):=by
  refine⟨by rw [←J,←u];exact s,fun y hy=>(z y hy).grown n (d y hy),fun q hq=>by cases hq;exact t⟩
 obtain⟨G,p1,p2,p3⟩:=M4.hp;have P5:HpM (c.setCell ⟨S,o,none⟩ (.slice (some ⟨g,0,none⟩) (xs++[x]).length cap)) g cap (xs++[x]) :=
  ⟨fun i y hy=>(World.cell?_of_block (a:=⟨g,i,none⟩) (Below.heap_setCell _ _ _ g (fun e=>A e.symm))).trans (G.ptr i y hy),fun y hy=>(G.wy y hy).other (hS y hy).1 (hS y hy).2,by rw [World.size_setCell];exact G.lt,G.far,fun j=>(World.frozen?_of_block (a:=⟨g,j,none⟩) (Below.heap_setCell _ _ _ g (fun e=>A e.symm))).trans (G.fz j),by obtain⟨ab,N,q2⟩:=G.shape;exact⟨ab,(Below.heap_setCell _ _ _ g (fun e=>A e.symm)).trans N,q2⟩⟩
 have hR:RiseI (stp (xs++[x])) (xs.length+1) xs.length:=RiseI.last hA (fun i hi=>by unfold stp;simp [List.getD,List.getElem?_append_left hi]);have I:(c.setCell ⟨S,o,none⟩ (.slice (some ⟨g,0,none⟩) (xs++[x]).length cap)).cell? ⟨S,o,none⟩=some (.slice (some ⟨g,0,none⟩) (xs++[x]).length cap):=World.cell?_setCell_same _ _ _ m;rw [←u] at P5 I;have HR:Hid (∀ W,Below (c.setCell ⟨S,o,none⟩ (.slice (some ⟨g,0,none⟩) (xs.length+1) cap)).heap.size (c.setCell ⟨S,o,none⟩ (.slice (some ⟨g,0,none⟩) (xs.length+1) cap)) W→qC 153 #[.slice (some ⟨g,0,none⟩) (xs.length+1) cap,.int .i64 (xs.length:Int)] W (zkO W g cap (xs++[x]))):=fun W f=>zwF (cap:=cap) (P5.below f) u.symm xs.length (by omega) (by omega) hR;have Y:Hid (xs.length+1=(xs++[x]).length∧(xs++[x]).length≤cap∧cap≤maxLen∧B≤g):=⟨u,p1,p2,p3⟩
 have HG:Hid (w.grownBy c v.ownBlock):=n;have aa:Hid (v.ownBlock=some g∨g=w.heap.size+1):=k;clear u J p1 p2 p3 G P5 M4 z d t hR s r n k M X hxf hS hA;go_wp2;have G5:Hid (c.grownBy (c.setCell ⟨S,o,none⟩ (.slice (some ⟨g,0,none⟩) (xs.length+1) cap)) (some S)∧(∀ j,¬j=o→(c.setCell ⟨S,o,none⟩ (.slice (some ⟨g,0,none⟩) (xs.length+1) cap)).cell? ⟨S,j,none⟩=c.cell? ⟨S,j,none⟩)∧(∀ j,(c.setCell ⟨S,o,none⟩ (.slice (some ⟨g,0,none⟩) (xs.length+1) cap)).frozen? ⟨S,j,none⟩=c.frozen? ⟨S,j,none⟩)) :=
  ⟨zac (Below.refl _ _),fun j hj=>by rw [zat _ S o j _ _ m,if_neg hj],fun j=>zdj⟩
 have D:S<(c.setCell ⟨S,o,none⟩ (.slice (some ⟨g,0,none⟩) (xs.length+1) cap)).heap.size:=World.block_lt_of_cell? _ _ I;generalize c.setCell ⟨S,o,none⟩ (.slice (some ⟨g,0,none⟩) (xs.length+1) cap)=w5 at I HR G5 D ⊢;have HF:∀ W,qB w5 W→W.cell? ⟨S,o,none⟩=some (.slice (some ⟨g,0,none⟩) (xs.length+1) cap):=fun W f=>(World.cell?_of_block (a:=⟨S,o,none⟩) (f.block S D)).trans I;refine zaf 8 (fun W=>qB w5 W) (Below.refl _ _).drew (by kernel_rfl) (by kernel_rfl) ?_;simp only [q2];iterate 8 (refine zab rfl ?_ (fun W f=>?_) ?_;rotate_left 1;· (have f1:=HF W f;go_simp;with_reducible rfl))
 refine wpQuiet_nil ?_;intro W f;have hr:=HR.out W f;go_wp2_with(go_at_call 153;(with_reducible refine hr.mono ?_);rintro e w6 ⟨rfl,ys,hp,T,Z,p⟩)
 obtain⟨N,q2,q3,q4⟩:=Y.out;have n:=HG.out;obtain⟨H,k5,z5⟩:=G5.out;have k:=aa.out;have U:ys.length=xs.length+1:=by rw [hp.length_eq,←N]
 have K:some S≠some g:=fun e=>A (by cases e;rfl);have F:w6.heap[S]?=w5.heap[S]?:=(p.block S (Nat.lt_of_lt_of_le D f.size) K).trans (f.block S D);refine bodyPost_end (results_none rfl _ _ _) rfl ⟨rfl,g,cap,ys,?_,hp,T.heap (by omega) q3 q4,Z,k.imp id (fun e=>by omega),⟨p.os.trans (f.os.trans (H.os.trans n.os)),p.tape.trans (f.tape.trans (H.tape.trans n.tape)),p.output.trans (f.output.trans (H.output.trans n.output)),Nat.le_trans n.size (Nat.le_trans H.size (Nat.le_trans f.size p.size)),fun q hq h1 h2=>?_,fun j hj=>?_,fun j=>?_⟩⟩
 ·rw [World.cell?_of_block (w:=w5) (a:=⟨S,o,none⟩) F,I,U]
 ·have l4:q<c.heap.size:=Nat.lt_of_lt_of_le hq n.size;have l5:q<w5.heap.size:=Nat.lt_of_lt_of_le l4 H.size;have R:some q≠some g:=fun e=>by
   cases e;rcases k with e|e
   ·exact h2 e.symm
   ·omega
  exact(p.block q (Nat.lt_of_lt_of_le l5 f.size) R).trans ((f.block q l5).trans ((H.block q l4 (fun e=>h1 (by cases e;rfl))).trans (n.block q hq h2)))
 ·rw [World.cell?_of_block (w:=w5) (a:=⟨S,j,none⟩) F,k5 j hj];exact World.cell?_of_block (a:=⟨S,j,none⟩) (n.block S C l)
 ·rw [World.frozen?_of_block (w:=w5) (a:=⟨S,j,none⟩) F,z5 j];exact World.frozen?_of_block (a:=⟨S,j,none⟩) (n.block S C l)
end Go.Proofs.YtfpgjkbjbbgciaaGreatDoor
