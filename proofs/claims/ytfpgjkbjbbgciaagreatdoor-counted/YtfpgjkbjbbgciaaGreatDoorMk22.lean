import Derived.Test.YtfpgjkbjbbgciaaGreatDoorMk19
import Derived.Test.YtfpgjkbjbbgciaaGreatDoorMk20
set_option maxRecDepth 100000
set_option maxHeartbeats 8000000
namespace Go.Proofs.YtfpgjkbjbbgciaaGreatDoor
open Go.RowKit Sp
def rgs(f:Nat→Rg):Nat→List Value
 | 0=>[]
 | n+1=>rgs f n++[.int .i64 (f n).lo,.int .i64 (f n).hi]
theorem zd3(f:Nat→Rg)(n:Nat):(rgs f n).length=n*2:=by
 induction n with
 | zero=>rfl
 | succ n ih=>simp [rgs,ih];omega
theorem zmq(f:Nat→Rg)(n r:Nat)(h:r<n):(rgs f n)[r*2]?=some (.int .i64 (f r).lo)∧(rgs f n)[r*2+1]?=some (.int .i64 (f r).hi):=by
 induction n with
 | zero=>omega
 | succ n ih =>
  have a:=zd3 f n;unfold rgs;by_cases e:r=n
  ·subst e;rw [List.getElem?_append_right (by omega),List.getElem?_append_right (by omega),a,show r*2-r*2=0 by omega,show r*2+1-r*2=1 by omega];exact⟨rfl,rfl⟩
  ·rw [List.getElem?_append_left (by omega),List.getElem?_append_left (by omega)];exact ih (by omega)
theorem ztM(f:Nat→Rg)(n:Nat):∀ v∈rgs f n,v.oneCell'=true:=by
 induction n with
 | zero=>intro v a;cases a
 | succ n ih =>
  intro v a;rcases List.mem_append.1 a with h|h
  ·exact ih v h
  ·rcases List.mem_cons.1 h with rfl|h
   ·rfl
   ·rw [List.mem_singleton.1 h];rfl
theorem zyQ(f:Nat→Rg)(n r:Nat)(h:r<n):(rgs f n).toArray.extract (r*2) (r*2+2)=#[.int .i64 (f r).lo,.int .i64 (f r).hi]:=by
 obtain⟨a,b⟩:=zmq f n r h;have hl:=zd3 f n;apply Array.ext
 ·simp [hl];omega
 ·intro i h2 c;have h4:i<2:=by simpa using c
  rw [Array.getElem_extract];rcases(by omega:i=0∨i=1) with rfl|rfl
  ·have:=(List.getElem?_eq_some_iff.1 a).2;simpa using this
  ·have:=(List.getElem?_eq_some_iff.1 b).2;simpa using this
theorem ztN{t n:Nat}(hu:Tryz.prog.underlying t=some (.array n 213))(A:Array Value)(r:Nat)(h:r<n)(x y:Value)(hc:A.extract (r*2) (r*2+2)=#[x,y])(W:World):(Instr.index t (.agg A) (.int .i64 (r:Int))).run Tryz.prog W=.ok (.agg #[x,y]) W:=by
 have c:(sizeOf 213).run Tryz.prog W=.ok 2 W:=by kernel_rfl
 have b:(isAgg 213).run Tryz.prog W=.ok true W:=by kernel_rfl
 have a:(0:Int)≤(r:Int)∧(r:Int)<(n:Int):=by omega
 simp only [Instr.index,run_underlying hu,asIntOf,Sem.run_bind,Sem.run_pure,Result.andThen_ok,if_pos a,c,Int.toNat_natCast,part,b,if_true,hc]
theorem zp8{t n:Nat}(hu:Tryz.prog.underlying t=some (.array n 213))(f:Nat→Rg)(r:Nat)(h:r<n)(W:World):(Instr.index t (.agg (rgs f n).toArray) (.int .i64 (r:Int))).run Tryz.prog W=.ok (rv (f r)) W :=
 ztN hu _ r h _ _ (zyQ f n r h) W
theorem zmr{w:World}{b o n:Nat}{f:Nat→Rg}(h:∀ r,r<n→w.cell? ⟨b,o+r*2,none⟩=some (.int .i64 (f r).lo)∧w.cell? ⟨b,o+r*2+1,none⟩=some (.int .i64 (f r).hi)):w.rangeAt b o (rgs f n):=by
 intro j v a;have k:=(List.getElem?_eq_some_iff.1 a).1;rw [zd3] at k;obtain⟨c,d⟩:=zmq f n (j/2) (by omega);obtain⟨g,i⟩:=h (j/2) (by omega);rcases Nat.mod_two_eq_zero_or_one j with e|e
 ·rw [show j/2*2=j by omega] at c g;rw [g,←c,a]
 ·rw [show j/2*2+1=j by omega] at d;rw [show o+j/2*2+1=o+j by omega] at i;rw [i,←d,a]
theorem KnM.rowR{w:World}{b:Nat}{bv:Value}{k:Kn}(h:KnM w b bv k):w.rangeAt b 0 (rgs k.regs 8) :=
 zmr fun r hr=>⟨by rw [Nat.zero_add];exact(h.cR r hr).1,by rw [Nat.zero_add];exact(h.cR r hr).2⟩
theorem KnM.rowC{w:World}{b:Nat}{bv:Value}{k:Kn}(h:KnM w b bv k):w.rangeAt b 16 (rgs k.cells 16) :=
 zmr fun r hr=>⟨(h.cC r hr).1,(h.cC r hr).2⟩
theorem zut{w:World}{p:Value}(r:Rg)(hr:r.Ok)(h:¬(0≤r.lo∧r.hi≤15)):Calls Tryz.prog 254 #[p,rv r] w fun e w'=>e=zak 8 0∧Below w.heap.size w w':=by
 go_enter Tryz.func254,Tryz.ntmps254;go_wp2_with(go_at_call 255;(with_reducible refine(zhl r hr h).mono ?_);rintro e wx ⟨rfl,a⟩)
 exact⟨rfl,rfl,box2.trans (a.mono (by simp;omega))⟩
theorem zr7{w:World}{p:Value}(r v:Rg)(hr:r.Ok)(h:¬(0≤r.lo∧r.hi≤15)):Calls Tryz.prog 258 #[p,rv r,rv v] w fun e w'=>e=zak 8 0∧Below w.heap.size w w':=by
 go_enter Tryz.func258,Tryz.ntmps258;go_wp2_with(go_at_call 255;(with_reducible refine(zhl r hr h).mono ?_);rintro e wx ⟨rfl,a⟩)
 exact⟨rfl,rfl,box2.trans (a.mono (by simp;omega))⟩
theorem zj7{w:World}{b:Nat}{bv:Value}{k:Kn}(h:KnM w b bv k)(r:Nat)(s:Nat)(hs:s<8)(K:(k.regs s).Ok)(hout:¬(0≤(k.regs s).lo∧(k.regs s).hi≤15)):
  Calls Tryz.prog 252 #[.agg #[.int .i64 (r:Int),.int .i64 (s:Int)],.pointer (some ⟨b,0,none⟩)] w fun e w'=>e=zak 8 0∧Below w.heap.size w w':=by
 have hlt:=h.lt;have s0:(0:Int)≤(s:Int):=by omega
 have s1:(s:Int)<8:=by omega
 have a0:=((h.alloc (.cells #[.int .i64 (r:Int),.int .i64 (s:Int)] 176)).cR s hs).1;have a1:=((h.alloc (.cells #[.int .i64 (r:Int),.int .i64 (s:Int)] 176)).cR s hs).2;go_enter Tryz.func252,Tryz.ntmps252;go_wp2
 go_region_dies
 all_goals(go_at_call 254;(with_reducible refine(zut (k.regs s) K hout).mono ?_);rintro e wx ⟨rfl,a⟩)
 all_goals exact⟨rfl,rfl,(box1.drew).trans (a.mono (by simp))⟩
theorem ziV{w:World}{b:Nat}{bv:Value}{k:Kn}(h:KnM w b bv k)(r:Nat)(hr:r<8)(s:Nat)(hs:s<8)(K:(k.regs r).Ok)(hout:¬(0≤(k.regs r).lo∧(k.regs r).hi≤15)):
  Calls Tryz.prog 257 #[.agg #[.int .i64 (r:Int),.int .i64 (s:Int)],.pointer (some ⟨b,0,none⟩)] w fun e w'=>e=zak 8 0∧Below w.heap.size w w':=by
 have hlt:=h.lt;have r0:(0:Int)≤(r:Int):=by omega
 have r1:(r:Int)<8:=by omega
 have s0:(0:Int)≤(s:Int):=by omega
 have s1:(s:Int)<8:=by omega
 obtain⟨A,d⟩:∃ A,w.alloc (.cells #[.int .i64 (r:Int),.int .i64 (s:Int)] 178)=A:=⟨_,rfl⟩
 have g:∀ W,Below A.heap.size A W→KnM W b bv k:=fun W a=>by subst d;exact(h.alloc _).below a (by simp;omega)
 have j:∀ W,Below A.heap.size A W→Below w.heap.size w W:=fun W a=>by subst d;exact box1.trans (a.mono (by simp))
 have i:∀ W,Below A.heap.size A W→(W.cell? ⟨w.heap.size,0,none⟩=some (.int .i64 (r:Int))∧W.cell? ⟨w.heap.size,1,none⟩=some (.int .i64 (s:Int)))∧(W.cell? ⟨b,r*2,none⟩=some (.int .i64 (k.regs r).lo)∧W.cell? ⟨b,r*2+1,none⟩=some (.int .i64 (k.regs r).hi))∧(W.cell? ⟨b,s*2,none⟩=some (.int .i64 (k.regs s).lo)∧W.cell? ⟨b,s*2+1,none⟩=some (.int .i64 (k.regs s).hi)):=fun W a =>
  ⟨by subst d;exact⟨za0 a 0,za0 a 1⟩,(g W a).cR r hr,(g W a).cR s hs⟩
 go_enter Tryz.func257,Tryz.ntmps257;go_wp2;refine zad 15 (fun W=>Below A.heap.size A W) (Below.refl _ _).drew (by kernel_rfl) (by kernel_rfl) ?_;simp only [List.take_succ_cons,List.take_zero,List.drop_succ_cons,List.drop_zero];repeat(refine zab rfl ?_ (fun W a=>?_) ?_;rotate_left 1;· (obtain⟨⟨f0,f1⟩,⟨f2,f3⟩,f4,f5⟩:=i W a;go_simp;with_reducible rfl))
 refine wpQuiet_nil ?_;intro W a;have c:=j W a;go_wp2_with(first|(go_at_call 258;(with_reducible refine(zr7 (k.regs r) (k.regs s) K hout).mono ?_);rintro e w5 ⟨rfl,f⟩))
 exact⟨rfl,rfl,c.trans (f.mono c.size)⟩
theorem PIn.fns{B:Nat}{w:World}{pm:Nat}{v:Value}{F:List FnM}(h:PIn B w pm v F)(hF:0<F.length):
  ∃ fg cap,v=.slice (some ⟨fg,0,none⟩) F.length cap∧fg<w.heap.size∧F.length≤cap∧∀ k (hk:k<F.length),
   w.cell? ⟨fg,k*4,none⟩=some (.string F[k].name)∧w.cell? ⟨fg,k*4+1,none⟩=some (.int .i64 F[k].line)∧w.cell? ⟨fg,k*4+2,none⟩=some F[k].bv∧w.cell? ⟨fg,k*4+3,none⟩=some (.map (some F[k].m)):=by
 have a:=h.row;obtain⟨fg,cap,f,_,e⟩:=a.form hF;subst f;have b:F.length≤cap:=by
  rcases a.2 with ⟨d,_⟩|⟨g',cap',cur,d,_,_,hnc,_⟩
  ·simp at d
  ·simp at d;omega
 refine⟨fg,cap,rfl,e,b,fun k hk=>?_⟩;have c:∀ j,j<4→w.cell? ⟨fg,k*4+j,none⟩=F[k].cells[j]?:=fun j hj=>by
  rw [World.ownsRow.cellAt a (k*4+j) (by omega),zjT F k hk j hj]
 exact⟨c 0 (by omega),c 1 (by omega),c 2 (by omega),c 3 (by omega)⟩
def zyE(w:World)(F:List Fn):Ending→World→Prop:=fun e w' =>
 Below w.heap.size w w'∧((∃ l,endK F=some l∧e=zak 5 l)∨(endK F=none∧e=.returned (.tuple #[])))
theorem ztr(F:List Fn)(k:Nat)(h:k<F.length):endK (F.drop k)=if zq5 F[k].body=true then endK (F.drop (k+1)) else some F[k].line:=by
 rw [List.drop_eq_getElem_cons h];rfl
theorem zpq{wr w2:World}{a b c d:Value}(hb:Below (wr.alloc (.cells #[a,b,c,d] 131)).heap.size (wr.alloc (.cells #[a,b,c,d] 131)) w2):
  w2.cell? ⟨wr.heap.size,1,none⟩=some b∧w2.cell? ⟨wr.heap.size,2,none⟩=some c∧w2.cell? ⟨wr.heap.size,3,none⟩=some d:=by
 have h:=World.cell?_alloc_new (w:=wr) #[a,b,c,d] 131;refine⟨?_,?_,?_⟩
 ·rw [hb.cell (by simp)];exact h 1
 ·rw [hb.cell (by simp)];exact h 2
 ·rw [hb.cell (by simp)];exact h 3
theorem zqN(b:List Key)(k:Key):zq5 (b++[k])=ends k.word:=by simp [zq5]
def zdW(its:List It):Bool:=match its.getLast? with|none=>false|some i=>ends i.word
theorem zfS(I:List It)(i:It):zdW (I++[i])=ends i.word:=by simp [zdW]
def zts(its:List It):Bool:=(zbO its).all (fun p=>!decide (p.2=(zal its).length))&&zdW (zal its)
theorem znN(n:Nat)(l:List It):∀ p∈zbc n l,p.2≤n+(zal l).length:=by
 induction l generalizing n with
 | nil=>simp [zbc]
 | cons i l ih =>
  intro p a;rw [zbU] at a;by_cases h:i.sort=1
  ·rw [if_pos h] at a;rw [show zal (i :: l)=zal l by simp [zal,h]];simp only [List.mem_cons] at a;rcases a with rfl|a
   ·show n≤_;omega
   ·exact ih n p a
  ·rw [if_neg h] at a;rw [show zal (i :: l)=i :: zal l by simp [zal,h]];have:=ih (n+1) p a;simp;omega
theorem zqO:ends ⟨#[]⟩=false:=by kernel_rfl
theorem zwq(its:List It)(hl:∀ i∈its,ItOk i):zts its=zq5 (its.map It.key):=by
 rcases List.eq_nil_or_concat its with rfl|⟨I,i,a⟩
 ·rfl
 ·rw [List.concat_eq_append] at a;subst a;rw [List.map_append,show [i].map It.key=[i.key] from rfl,zqN];unfold zts;by_cases h:i.sort=1
  ·rw [show i.key.word=⟨#[]⟩ from(hl i (by simp)).2 h,zqO,zjR _ _ h,zlR _ _ h];simp
  ·rw [zjS _ _ h,zlQ _ _ h];have:(zbO I).all (fun p=>!decide (p.2=(zal I++[i]).length))=true:=by
    rw [List.all_eq_true];intro p b;have:=znN 0 I p b;simp;omega
   rw [this,zfS];simp [It.key]
theorem ztt(E:List (ByteArray × Nat))(x:ByteArray)(p:Nat)(h:zb6 E x=some p):∃ q∈E,q.2=p∧eqW q.1 x=true:=by
 induction E with
 | nil=>cases h
 | cons q r ih =>
  unfold zb6 at h;by_cases e:eqW q.1 x=true
  ·rw [if_pos e] at h;simp only [Option.some.injEq] at h;exact⟨q,by simp,h,e⟩
  ·rw [if_neg e] at h;obtain⟨b,h1,a⟩:=ih h;exact⟨b,by simp [h1],a⟩
theorem zqP(E:List (ByteArray × Nat))(hp:E.Pairwise (fun a b=>eqW a.1 b.1=false))(x:ByteArray)(p:Nat)(h:zb6 E x=some p)(q:ByteArray × Nat)(hq:q∈E)(hx:eqW q.1 x=true):q.2=p:=by
 induction E with
 | nil=>cases hq
 | cons a r ih =>
  obtain⟨g,i⟩:=List.pairwise_cons.1 hp;unfold zb6 at h;simp only [List.mem_cons] at hq;by_cases e:eqW a.1 x=true
  ·rw [if_pos e] at h;simp only [Option.some.injEq] at h;rcases hq with rfl|hq
   ·exact h
   ·have:=g q hq;have d:=(zdU _ _).1 e;have f:=(zdU _ _).1 hx;have:eqW a.1 q.1=true:=(zdU _ _).2 (d.trans f.symm)
    simp_all
  ·rw [if_neg e] at h;rcases hq with rfl|hq
   ·exact absurd hx e
   ·exact ih i h hq
theorem znO(E:List (ByteArray × Nat))(n:Nat)(h:∀ p∈E,¬p.2=n):E.all (fun p=>!decide (p.2=n))=true:=by
 rw [List.all_eq_true];intro p a;simpa using h p a
theorem znP(E:List (ByteArray × Nat))(n:Nat)(p:ByteArray × Nat)(hp:p∈E)(h:p.2=n):E.all (fun p=>!decide (p.2=n))=false:=by
 rw [List.all_eq_false];exact⟨p,hp,by simpa using h⟩
def zbn(s:Int):Bool:=bits BinOp.and IntKind.i64 s (s-1) == 0
theorem zc6{w:World}{S o:Nat}{s:Int}(hc:w.cell? ⟨S,o+1,none⟩=some (.int .i64 s))(h0:0≤s)(h1:s≤100000):Calls Tryz.prog 167 #[.pointer (some ⟨S,o,none⟩)] w fun e w'=>e=.returned (.bool (zbn s))∧Below w.heap.size w w':=by
 have d:S<w.heap.size:=World.block_lt_of_cell? w _ hc;have c:∀ W,Below w.heap.size w W→W.cell? ⟨S,o+1,none⟩=some (.int .i64 s):=fun W b=>(World.cell?_of_block (a:=⟨S,o+1,none⟩) (b.block S d)).trans hc;go_enter Tryz.func167,Tryz.ntmps167;go_wp2;refine zad 11 (fun W=>Below w.heap.size w W) (Below.refl _ _).drew (by kernel_rfl) (by kernel_rfl) ?_;simp only [List.take_succ_cons,List.take_zero,List.drop_succ_cons,List.drop_zero];iterate 11 (refine zab rfl ?_ (fun W b=>?_) ?_;rotate_left 1;· (have f1:=c W b;go_simp;with_reducible rfl))
 refine wpQuiet_nil ?_;intro W b;go_wp2;go_ret;exact⟨rfl,b⟩
structure Mk where
 ao:Option Addr
 cap:Nat
 k:Kn
def zaS(bv:Value)(k:Kn):List Value:=rgs k.regs 8++(rgs k.cells 16++[.int .i64 k.next,bv,.int .i64 k.steps])
theorem zdo(bv:Value)(k:Kn):(zaS bv k).length=51:=by simp [zaS,zd3]
def Mk.cells(m:Mk):List Value:=zaS (.slice m.ao m.k.behind.length m.cap) m.k
def zbi(ms:List Mk):List Value:=ms.flatMap Mk.cells
theorem zm1(ms:List Mk)(m:Mk):zbi (ms++[m])=zbi ms++m.cells:=by simp [zbi]
theorem zrq{ms:List Mk}{i:Nat}{m:Mk}(h:ms[i]?=some m)(j:Nat)(hj:j<51):(zbi ms)[51*i+j]?=m.cells[j]?:=by
 induction ms generalizing i with
 | nil=>simp at h
 | cons x t ih =>
  show(x.cells++zbi t)[51*i+j]?=_;have a:x.cells.length=51:=zdo _ _;cases i with
  | zero =>
   cases h;rw [Nat.mul_zero,Nat.zero_add,List.getElem?_append_left (by omega)]
  | succ i =>
   rw [List.getElem?_append_right (by omega),a,show 51*(i+1)+j-51=51*i+j by omega];exact ih (by simpa using h)
theorem ziQ{w:World}{b o:Nat}{bv:Value}{k:Kn}(h:∀ j,j<51→w.cell? ⟨b,o+j,none⟩=(zaS bv k)[j]?):KnR w b o bv k:=by
 have a:=zd3 k.regs 8;have e:=zd3 k.cells 16;have d:∀ j,j<3→(zaS bv k)[48+j]?=[Value.int .i64 k.next,bv,.int .i64 k.steps][j]?:=fun j hj=>by
  unfold zaS;rw [List.getElem?_append_right (by omega),List.getElem?_append_right (by omega),a,e,show 48+j-8*2-16*2=j by omega]
 have r:∀ r,r<8→(zaS bv k)[r*2]?=some (.int .i64 (k.regs r).lo)∧(zaS bv k)[r*2+1]?=some (.int .i64 (k.regs r).hi):=fun r hr=>by
  unfold zaS;rw [List.getElem?_append_left (by omega),List.getElem?_append_left (by omega)];exact zmq _ _ _ hr
 have c:∀ c,c<16→(zaS bv k)[16+c*2]?=some (.int .i64 (k.cells c).lo)∧(zaS bv k)[16+c*2+1]?=some (.int .i64 (k.cells c).hi):=fun c hc=>by
  unfold zaS;refine⟨?_,?_⟩
  ·rw [List.getElem?_append_right (by omega),List.getElem?_append_left (by omega),a,show 16+c*2-8*2=c*2 by omega];exact(zmq _ _ _ hc).1
  ·rw [List.getElem?_append_right (by omega),List.getElem?_append_left (by omega),a,show 16+c*2+1-8*2=c*2+1 by omega];exact(zmq _ _ _ hc).2
 exact⟨fun x hx=>⟨(h _ (by omega)).trans (r x hx).1,(h _ (by omega)).trans (r x hx).2⟩,fun x hx=>⟨(h _ (by omega)).trans (c x hx).1,(h _ (by omega)).trans (c x hx).2⟩,(h 48 (by omega)).trans (d 0 (by omega)),(h 49 (by omega)).trans (d 1 (by omega)),(h 50 (by omega)).trans (d 2 (by omega))⟩
theorem KnM.cells'{w:World}{b:Nat}{bv:Value}{k:Kn}(h:KnM w b bv k):w.rangeAt b 0 (zaS bv k):=by
 have d:=zd3 k.regs 8;have f:=zd3 k.cells 16;intro j v a;rw [Nat.zero_add];have c:=(List.getElem?_eq_some_iff.1 a).1;rw [zdo] at c;unfold zaS at a;by_cases h1:j<16
 ·rw [List.getElem?_append_left (by omega)] at a;have:=h.rowR j v a;rw [Nat.zero_add] at this;exact this
 ·rw [List.getElem?_append_right (by omega),d] at a;by_cases h2:j<48
  ·rw [List.getElem?_append_left (by omega)] at a;have:=h.rowC (j-8*2) v a;rw [show 16+(j-8*2)=j by omega] at this;exact this
  ·rw [List.getElem?_append_right (by omega),f] at a;rcases(by omega:j=48∨j=49∨j=50) with e|e|e
   ·subst e;cases a;exact h.cN
   ·subst e;cases a;exact h.cB
   ·subst e;cases a;exact h.cS
theorem zop{ao:Option Addr}{n cap:Nat}{k:Kn}:∀ v∈zaS (.slice ao n cap) k,v.oneCell'=true:=by
 intro v b;unfold zaS at b;rcases List.mem_append.1 b with h|h
 ·exact ztM _ _ v h
 ·rcases List.mem_append.1 h with h|h
  ·exact ztM _ _ v h
  ·simp only [List.mem_cons,List.not_mem_nil,or_false] at h;rcases h with rfl|rfl|rfl <;> rfl
end Go.Proofs.YtfpgjkbjbbgciaaGreatDoor
