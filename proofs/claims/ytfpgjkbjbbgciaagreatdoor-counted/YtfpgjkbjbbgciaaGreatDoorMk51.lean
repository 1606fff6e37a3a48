import Derived.Test.YtfpgjkbjbbgciaaGreatDoorMk45
import Derived.Test.YtfpgjkbjbbgciaaGreatDoorMk50
set_option maxRecDepth 100000
set_option maxHeartbeats 8000000
namespace Go.Proofs.YtfpgjkbjbbgciaaGreatDoor
open Go.RowKit Sp
section
attribute [local go_sem ↓] Go.wp_at_zero Go.wp_at_succ
def zdN(d:Nat):Nat:=if d=0 then 1268 else if d=1 then 308 else if d=2 then 68 else 8
def zj0(d:Nat):Nat:=if d=0 then 252 else if d=1 then 60 else if d=2 then 12 else 0
def zho(d:Nat):Nat:=if d=0 then 100 else if d=1 then 1374 else if d=2 then 1688 else 1762
def znf(d:Nat):Nat:=if d=0 then 10 else if d=1 then 265 else if d=2 then 328 else 343
theorem ze9(d:Nat):zho d≤1762:=by
 unfold zho;split
 ·decide
 ·split
  ·decide
  ·split <;> decide
theorem zxL(d:Nat):znf d≤343:=by
 unfold znf;split
 ·decide
 ·split
  ·decide
  ·split <;> decide
def zj1(d:Nat):Prop:=∀(B:Nat) (w:World) (b px:Nat) (cv:Value) (code:List Int) (S:Wst) (k:Nat) (V:Nat→Value),WrM B w b px cv code S k V→S.deep=d→zjA S.held≤2*d→S.lines.length≤zho d→S.labels≤znf d→S.nk≤100→S.counts.length≤d →
 Calls Tryz.prog 60 #[.pointer (some ⟨b,0,none⟩)] w fun e w'=>∃ n:Nat,(e=.returned (.int .i64 (n:Int))∧n≤1073741824)∧PcPost B w b px cv code V S (zdN d) (zj0 d) w' n
theorem zv2{i n m:Nat}{A D:ByteArray}{L:ByteArray}(h1:Hid (A=ba (regW i)))(h2:Hid (D=ba (regW n)))(h3:L=ba (labW m)):ba (ze4 i n m).bytes=ba [9]++((⟨#[108,101,115,115,32]⟩:ByteArray)++A++(⟨#[32]⟩:ByteArray)++D++(⟨#[32]⟩:ByteArray)++L):=by
 rw [show A=_ from h1,show D=_ from h2,h3];exact ln3 _ _ _ _
theorem zng{m:Nat}{L:ByteArray}(h3:L=ba (labW m)):ba (zcA m).bytes=ba [9]++((⟨#[106,117,109,112,32]⟩:ByteArray)++L):=by
 rw [h3];exact ln1 _ _
theorem zln{m:Nat}{L:ByteArray}(h3:L=ba (labW m)):lnV (labL m)=.string (L++(⟨#[58]⟩:ByteArray)):=by
 rw [h3];have e:(⟨#[58]⟩:ByteArray)=ba [58]:=rfl;rw [e,zeg];unfold lnV;refine congrArg _ (congrArg ba ?_);simp [Ln.bytes,Ln.blank,zc8,labL]
theorem zlo(n:Nat)(h:n≤1000000):(ba (labW n)).size≤10:=by
 have:=zeP 6 n (by omega);show(decL n).length+1≤10;omega
structure LSt(S T:Wst)(A:List Ln)(C:List Nat)(H:Nat→Bool)(d lab:Nat):Prop where
 lines:T.lines=S.lines++A
 counts:T.counts=C
 deep:T.deep=d
 nk:T.nk=S.nk
 held:T.held=H
 labels:T.labels=lab
 most:T.most=S.most
 fs:T.fs=S.fs
theorem LSt.add{S T:Wst}{A:List Ln}{C:List Nat}{H:Nat→Bool}{d lab:Nat}(h:LSt S T A C H d lab)(l:Ln):LSt S { T with lines:=T.lines++[l] } (A++[l]) C H d lab:=⟨by show T.lines++[l]=_;rw [h.lines,List.append_assoc],h.counts,h.deep,h.nk,h.held,h.labels,h.most,h.fs⟩
theorem LSt.re{S T T2:Wst}{A:List Ln}{C:List Nat}{H:Nat→Bool}{d lab:Nat}(h:LSt S T A C H d lab)(e:T=T2):LSt S T2 A C H d lab:=e▸h
theorem WrM.cnt1{B:Nat}{w:World}{b px:Nat}{cv:Value}{code:List Int}{S:Wst}{k:Nat}{V:Nat→Value}(h:WrM B w b px cv code S k V){C:List Nat}(hC:S.counts=C):∃ ao cap,V 11=.slice ao C.length cap∧w.cell? ⟨b,11,none⟩=some (.slice ao C.length cap)∧w.ownsRow B 3 1 (.slice ao C.length cap) C.length (C.map natV)∧C.length≤cap∧cap≤maxLen:=by
 subst hC;obtain⟨ao,cap,a,c,d,_⟩:=zd7 h.counts;exact⟨ao,cap,a,by rw [←a];exact h.blk.cell 11 (by omega),by rw [←a];exact h.counts,c,d⟩
theorem WrM.deepAt{B:Nat}{w:World}{b px:Nat}{cv:Value}{code:List Int}{S:Wst}{k:Nat}{V:Nat→Value}(h:WrM B w b px cv code S k V){d:Nat}(hd:S.deep=d):w.cell? ⟨b,20,none⟩=some (.int .i64 (d:Int))∧w.frozen? ⟨b,20,none⟩=false:=by
 subst hd;exact⟨h.dp,h.blk.fz 20⟩
theorem zv3{d:Nat}(h:¬d=0):zdN d≤308:=by
 unfold zdN;rw [if_neg h];split
 ·exact Nat.le_refl _
 ·split <;> decide
theorem zxM{d:Nat}(h:¬d=0):zj0 d≤60:=by
 unfold zj0;rw [if_neg h];split
 ·exact Nat.le_refl _
 ·split <;> decide
theorem LSt.done{S T:Wst}{A:List Ln}{i n d cc:Nat}(h:LSt S T A S.counts (updH (updH S.held i true) n true) d cc)(hd:S.deep=d)(hi:S.held i=false)(hn:updH S.held i true n=false):{ T with held:=updH (updH T.held i false) n false }={ S with lines:=S.lines++A,labels:=cc }:=by
 obtain⟨a,b,c,e,f,g,j,k⟩:=h;obtain⟨t1,t2,t3,t4,t5,t6,t7,t8⟩:=T;obtain⟨s1,s2,s3,s4,s5,s6,s7,s8⟩:=S;simp only at a b c e f g j k hd hi hn ⊢;subst a b c e f g j k hd;rw [zv1 hi hn]
theorem zxN(a l b:Int)(w:World)(E:EndsOk a l b):∃ t:Nat,t≤2500∧l≤a+(t:Int)*b∧Calls Tryz.prog 40 #[.int .i64 a,.int .i64 l,.int .i64 b] w fun e w'=>e=.returned (.int .i64 (t:Int))∧w'=w:=by
 obtain⟨a0,a1,l0,l1,b0,b1,hf⟩:=E;by_cases h:l≤a
 ·refine⟨0,by omega,by simpa using h,?_⟩;go_enter Tryz.func40,Tryz.ntmps40;go_wp2;go_ret;exact⟨rfl,rfl⟩
 ·have d:(l-a-1).tdiv b=(l-a-1)/b:=Int.tdiv_eq_ediv_of_nonneg (by omega);have f:0≤(l-a-1)/b:=Int.ediv_nonneg (by omega) (by omega);have g:(l-a-1)/b<2500:=Int.ediv_lt_of_lt_mul (by omega) (by omega);obtain⟨q,hq⟩:=Int.eq_ofNat_of_zero_le f;have c:l-a-1<((l-a-1)/b+1)*b:=Int.lt_ediv_add_one_mul_self _ (by omega);rw [hq] at d g c;have i:((q+1:Nat):Int)*b=((q:Int)+1)*b:=by rw [Int.natCast_add];rfl
  refine⟨q+1,by omega,by rw [i];omega,?_⟩;clear c i;go_enter Tryz.func40,Tryz.ntmps40;go_wp2;go_ret;exact⟨by go_num,rfl⟩
theorem WrM.re{B:Nat}{w:World}{b px:Nat}{cv:Value}{code:List Int}{S S2:Wst}{k:Nat}{V:Nat→Value}(h:WrM B w b px cv code S k V)(e:S=S2):WrM B w b px cv code S2 k V:=e▸h
theorem zso{A D L:ByteArray}(h1:A.size=2)(h2:D.size=2)(h3:L.size≤21):((⟨#[108,101,115,115,32]⟩:ByteArray)++A++(⟨#[32]⟩:ByteArray)++D++(⟨#[32]⟩:ByteArray)++L).size≤1000:=by
 have e:(⟨#[32]⟩:ByteArray).size=1:=rfl;have e2:(⟨#[108,101,115,115,32]⟩:ByteArray).size=5:=rfl;simp only [ByteArray.size_append];omega
theorem WrM.line1{B:Nat}{w:World}{b px:Nat}{cv:Value}{code:List Int}{S:Wst}{k:Nat}{V:Nat→Value}(h:WrM B w b px cv code S k V):∃ ao cap,V 1=.slice ao S.lines.length cap∧w.cell? ⟨b,1,none⟩=some (.slice ao S.lines.length cap)∧w.ownsRow B 9 1 (.slice ao S.lines.length cap) S.lines.length (S.lines.map lnV):=by
 obtain⟨ao,cap,a⟩:=zba h.lines;exact⟨ao,cap,a,by rw [←a];exact h.blk.cell 1 (by omega),by rw [←a];exact h.lines⟩
theorem zz1(t wt:Nat):t*(wt+3)+4≤4+(t+1)*(wt+4):=by
 have:=Nat.mul_le_mul (show t≤t+1 by omega) (show wt+3≤wt+4 by omega);omega
theorem zz2(d:Nat)(hd:d<3)(IH:zj1 (d+1)){B:Nat}{w:World}{b px:Nat}{cv:Value}{code:List Int}{S:Wst}{k:Nat}{V:Nat→Value}(M0:WrM B w b px cv code S k V)(hdp:S.deep=d)(hh:zjA S.held≤2*d)(hn':S.lines.length+6≤zho (d+1))(hlb':S.labels+3≤znf (d+1))(hnk:S.nk≤100)(hcnt:S.counts.length≤d):
  Calls Tryz.prog 93 #[.pointer (some ⟨b,0,none⟩)] w fun e w'=>∃ n:Nat,(e=.returned (.int .i64 (n:Int))∧n≤3000000000000)∧PcPost B w b px cv code V S (9+zdN (d+1)) (3+zj0 (d+1)) w' n:=by
 have hn:S.lines.length≤1900:=by have:=ze9 (d+1);omega
 have hlb:S.labels≤900:=by have:=zxL (d+1);omega
 have F0:=Fr.refl b px w V;obtain⟨rf,bf,hf⟩:=ze8 (h:=S.held) (by omega);go_enter Tryz.func93,Tryz.ntmps93;go_wp2_with(first
  | (go_at_call 118;(with_reducible refine(zca M0 rf bf hf).mono ?_);rintro e w1 ⟨i,rfl,O,aS,k1,V1,M1,f1,u1⟩;refine Hid.out ?_))
 unfold Hid;have F1:=F0.trans f1;have hi0:(0:Int)≤(i:Int):=by omega
 have hi8:(i:Int)<8:=by omega
 have ci:=M1.heldAt i O;have zi:=M1.blk.fz (3+i);have M2:=zhG M1 i O true;have F2:=F1.trans (M1.put_fr (3+i) (.bool true) (by omega) (by omega));have h1:=zne S.held i O;obtain⟨rg,bg,hg⟩:=ze8 (h:=updH S.held i true) (by omega);go_wp2_with(first
  | (go_at_call 118;(with_reducible refine(zca M2 rg bg hg).mono ?_);rintro e w3 ⟨n,rfl,s,ai,k3,V3,M3,f3,u3⟩;refine Hid.out ?_))
 unfold Hid;have F3:=F2.trans f3;have hn0:(0:Int)≤(n:Int):=by omega
 have hn9:(n:Int)<8:=by omega
 have cn:=M3.heldAt n s;have zn:=M3.blk.fz (3+n);have M4:=zhG M3 n s true;have F4:=M3.put_fr (3+n) (.bool true) (by omega) (by omega);have FA:=F3;have uI:=hidK (f3.gv _ ((M1.put_fr (3+i) (.bool true) (by omega) (by omega)).gv _ u1));have uN:=hidK u3;clear u1 u3;have h2:=zne (updH S.held i true) n s;clear ci zi F1 F2 F3 f1 f3;go_wp2_with(first
  | (go_at_call 119;(with_reducible refine(zz0 M4).mono ?_);rintro e w5 ⟨x,y,z,rfl,hE,k5,V5,M5,f5⟩;have F5:=F4.trans f5)
  | (go_at_call 120;first
      | ((with_reducible refine(zle M5 (by show S.labels≤100000;omega)).mono ?_);rintro e w6 ⟨rfl,k6,V6,M6,f6⟩;have F6:=F5.trans f6)
      | ((with_reducible refine(zle M6 (by show S.labels+1≤100000;omega)).mono ?_);rintro e w7 ⟨rfl,k7,V7,M7,f7⟩;have F7:=F6.trans f7)
      | ((with_reducible refine(zle M7 (by show S.labels+1+1≤100000;omega)).mono ?_);rintro e w8 ⟨rfl,k8,V8,M8,f8⟩;have F8:=F7.trans f8))
  | (go_at_call 38;refine Hid.out ?_))
 --SEG
 unfold Hid;obtain⟨i0,ac,aC,aD,aE⟩:=info_parts Tryz.info9;obtain⟨L1,W⟩:∃ L1,L1=ba (labW (S.labels+1)):=⟨_,rfl⟩
 obtain⟨L2,X⟩:∃ L2,L2=ba (labW (S.labels+1+1)):=⟨_,rfl⟩
 obtain⟨L3,Y⟩:∃ L3,L3=ba (labW (S.labels+1+1+1)):=⟨_,rfl⟩
 have q1:L1.size≤21:=by rw [W];exact Nat.le_trans (zlo _ (by omega)) (by decide)
 have q2:L2.size≤21:=by rw [X];exact Nat.le_trans (zlo _ (by omega)) (by decide)
 have q3:L3.size≤21:=by rw [Y];exact Nat.le_trans (zlo _ (by omega)) (by decide)
 rw [←W,←X,←Y];replace W:Hid (L1=ba (labW (S.labels+1))):=W;replace X:Hid (L2=ba (labW (S.labels+1+1))):=X;replace Y:Hid (L3=ba (labW (S.labels+1+1+1))):=Y;obtain⟨T0,aL⟩:∃ T0:Wst,T0={ S with labels:=S.labels+1+1+1,held:=updH (updH S.held i true) n true }:=⟨_,rfl⟩
 have M:=M8.re aL.symm;have F:=F8;have f:LSt S T0 [] S.counts (updH (updH S.held i true) n true) d (S.labels+1+1+1):=by rw [aL];exact⟨by simp,rfl,hdp,rfl,rfl,rfl,rfl,rfl⟩
 have E:T0.lines.length≤1900:=by rw [f.lines];simpa using hn
 obtain⟨aY,aZ,a0,a2,aO,aP,aR⟩:=hE;have ix:i64 x:=⟨by omega,by omega⟩
 have iy:i64 y:=⟨by omega,by omega⟩
 have iz:i64 z:=⟨by omega,by omega⟩
 clear M1 M2 M3 M4 M5 M6 M7 M8 F4 F5 F6 F7 F8 f5 f6 f7 f8 cn zn hg aL;refine Hid.out ?_;unfold Hid;go_wp2_with(first
  | (go_at_call 38;(with_reducible refine(zbp i O _).mono ?_);rintro e wr ⟨Ar,rfl,ak,H,p⟩;replace M:=M.below p M.base;replace F:=F.trans (.low p))
  | (go_at_call 36;(with_reducible refine(zfb x ix _).mono ?_);rintro e wr ⟨D,rfl,zD,hD,p⟩;have aF:=zfe 7 zD (by decide);replace M:=M.below p M.base;replace F:=F.trans (.low p))
  | (go_at_call 62;refine Hid.out ?_))
 unfold Hid;refine(zbE M (setL i x) _ (zhI H hD) (zbQ (by decide) (by omega) zD) (by omega)).mono ?_;rintro e w1 ⟨rfl,k1,V1,m,o⟩;dsimp only;replace F:=F.trans o;clear o;obtain⟨T1,ar⟩:∃ T1:Wst,T1={ T0 with lines:=T0.lines++[setL i x] }:=⟨_,rfl⟩
 replace M:=m.re ar.symm;replace E:T1.lines.length≤1901:=by rw [ar];simp;omega
 replace f:=(f.add (setL i x)).re ar.symm;clear ar m;go_wp2_with(first
  | (go_at_call 38;(with_reducible refine(zbp n s _).mono ?_);rintro e wr ⟨Ar,rfl,ak,H,p⟩;replace M:=M.below p M.base;replace F:=F.trans (.low p))
  | (go_at_call 36;(with_reducible refine(zfb y iy _).mono ?_);rintro e wr ⟨D,rfl,zD,hD,p⟩;have aF:=zfe 7 zD (by decide);replace M:=M.below p M.base;replace F:=F.trans (.low p))
  | (go_at_call 62;refine Hid.out ?_))
 unfold Hid;refine(zbE M (setL n y) _ (zhI H hD) (zbQ (by decide) (by omega) zD) (by omega)).mono ?_;rintro e w2 ⟨rfl,k2,V2,m,o⟩;dsimp only;replace F:=F.trans o;clear o;obtain⟨T2,au⟩:∃ T2:Wst,T2={ T1 with lines:=T1.lines++[setL n y] }:=⟨_,rfl⟩
 replace M:=m.re au.symm;replace E:T2.lines.length≤1902:=by rw [au];simp;omega
 replace f:=(f.add (setL n y)).re au.symm;clear au m;obtain⟨ao,cap,hv,cl,ho⟩:=M.line1;have C:=zln (Hid.out2 W);have lb:=M.blk.lt;have ah:=M.base;have qz:¬9223372036854775807<L1.size+1:=by omega
 go_wp2_with(first
  | (at_builtin;refine wpList_append_lies _ rfl _ _ 67 rfl B 9 i0 (.string ByteArray.empty) 1 16 Tryz.under67 ac aC aD aE rfl (by decide) _ _ _ rfl (ho.alloc _) ⟨w2.heap.size,0,none⟩ 1 1 [.string (L1++(⟨#[58]⟩:ByteArray))] rfl rfl (cell_one_new _ _ _) (zdu _) (by decide) (by unfold maxLen;omega) (by omega) (by simp;omega) (w2.heap.size+1) (by simp) ?_))
 intro gb cb bl j a g _;obtain⟨m,o,I,az⟩:=M.said (l:=labL (S.labels+1)) (w4:=bl) (by rw [hv];exact(World.grownBy_alloc _ _ _).trans a) (by rw [hv];rcases g with e|e;exact .inl e;exact .inr (by omega)) (by rw [List.map_append,List.map_singleton,C];exact j);rw [hv] at I;replace F:=F.trans o;clear o cl ho j a g C;obtain⟨T3,av⟩:∃ T3:Wst,T3={ T2 with lines:=T2.lines++[labL (S.labels+1)] }:=⟨_,rfl⟩
 replace M:=m.re av.symm;replace E:T3.lines.length≤1903:=by rw [av];simp;omega
 replace f:=(f.add (labL (S.labels+1))).re av.symm;clear av m hv;go_wp2_with(first
  | (go_at_call 38;first
      | ((with_reducible refine(zbp i O _).mono ?_);rintro e wr ⟨Ar,rfl,ak,H,p⟩;replace M:=M.below p M.base;replace F:=F.trans (.low p))
      | ((with_reducible refine(zbp n s _).mono ?_);rintro e wr ⟨D,rfl,zD,hD,p⟩;have aF:=zfe 9 q2 (by decide);replace M:=M.below p M.base;replace F:=F.trans (.low p)))
  | (go_at_call 62;refine Hid.out ?_))
 unfold Hid;refine(zbE M (ze4 i n (S.labels+1+1)) _ (zv2 H hD (Hid.out2 X)) (zso ak zD q2) (by omega)).mono ?_;rintro e w4 ⟨rfl,k4,V4,m,o⟩;dsimp only;replace F:=F.trans o;clear o;obtain⟨T4,aw⟩:∃ T4:Wst,T4={ T3 with lines:=T3.lines++[ze4 i n (S.labels+1+1)] }:=⟨_,rfl⟩
 replace M:=m.re aw.symm;replace E:T4.lines.length≤1904:=by rw [aw];simp;omega
 replace f:=(f.add (ze4 i n (S.labels+1+1))).re aw.symm;clear aw m;go_wp2_with(first
  | fail
  | (go_at_call 62;refine Hid.out ?_))
 unfold Hid;refine(zbE M (zcA (S.labels+1+1+1)) _ (zng (Hid.out2 Y)) (zgn (by decide) q3) (by omega)).mono ?_;rintro e w5 ⟨rfl,k5,V5,m,o⟩;dsimp only;replace F:=F.trans o;clear o;obtain⟨T5,ax⟩:∃ T5:Wst,T5={ T4 with lines:=T4.lines++[zcA (S.labels+1+1+1)] }:=⟨_,rfl⟩
 replace M:=m.re ax.symm;replace E:T5.lines.length≤1905:=by rw [ax];simp;omega
 replace f:=(f.add (zcA (S.labels+1+1+1))).re ax.symm;clear ax m;obtain⟨ao,cap,hv,cl,ho⟩:=M.line1;have C:=zln (Hid.out2 X);have lb:=M.blk.lt;have ah:=M.base;have qz:¬9223372036854775807<L2.size+1:=by omega
 go_wp2_with(first
  | (at_builtin;refine wpList_append_lies _ rfl _ _ 67 rfl B 9 i0 (.string ByteArray.empty) 1 16 Tryz.under67 ac aC aD aE rfl (by decide) _ _ _ rfl (ho.alloc _) ⟨w5.heap.size,0,none⟩ 1 1 [.string (L2++(⟨#[58]⟩:ByteArray))] rfl rfl (cell_one_new _ _ _) (zdu _) (by decide) (by unfold maxLen;omega) (by omega) (by simp;omega) (w5.heap.size+1) (by simp) ?_))
 intro gb cb ad j a g _;obtain⟨m,o,I,az⟩:=M.said (l:=labL (S.labels+1+1)) (w4:=ad) (by rw [hv];exact(World.grownBy_alloc _ _ _).trans a) (by rw [hv];rcases g with e|e;exact .inl e;exact .inr (by omega)) (by rw [List.map_append,List.map_singleton,C];exact j);rw [hv] at I;replace F:=F.trans o;clear o cl ho j a g C;obtain⟨T6,ay⟩:∃ T6:Wst,T6={ T5 with lines:=T5.lines++[labL (S.labels+1+1)] }:=⟨_,rfl⟩
 replace M:=m.re ay.symm;replace E:T6.lines.length≤1906:=by rw [ay];simp;omega
 replace f:=(f.add (labL (S.labels+1+1))).re ay.symm;clear ay m hv;obtain⟨P,N⟩:∃ P,P=[setL i x,setL n y,labL (S.labels+1),ze4 i n (S.labels+1+1),zcA (S.labels+1+1+1),labL (S.labels+1+1)]:=⟨_,rfl⟩
 replace f:LSt S T6 P S.counts (updH (updH S.held i true) n true) d (S.labels+1+1+1):=by rw [N];exact f
 replace N:Hid (P=[setL i x,setL n y,labL (S.labels+1),ze4 i n (S.labels+1+1),zcA (S.labels+1+1+1),labL (S.labels+1+1)]):=N;have aQ:T6.counts=S.counts:=f.counts;obtain⟨ao1,cap1,bi,aJ,aA,hcc1,hcm1⟩:=M.cnt1 aQ;clear aQ;have hcap:S.counts.length≤9223372036854775806:=by
  have:=hcnt;omega
 obtain⟨j0,bd,a1,a3,a4⟩:=info_parts Tryz.info3;obtain⟨dd,zd⟩:=M.deepAt f.deep;have lb:=M.blk.lt;have ah:=M.base;by_cases hR:0≤x∧y≤16
 focus
  obtain⟨ag,bb⟩:=hR;go_wp2_with(first
   | (at_builtin;refine Hid.out ?_))
  unfold Hid;have aW:(ad.setCell ⟨b,1,none⟩ (.slice (some ⟨gb,0,none⟩) (T5.lines.length+1) cb)).heap.size=ad.heap.size:=World.size_setCell _ _ _;generalize ad.setCell ⟨b,1,none⟩ (.slice (some ⟨gb,0,none⟩) (T5.lines.length+1) cb)=w6 at M F aA lb ah dd zd aJ aW ⊢;refine wpList_append_lies _ rfl _ _ 59 rfl B 3 j0 (.int .i64 0) 1 8 Tryz.under59 bd a1 a3 a4 rfl (by decide) _ _ _ rfl (aA.alloc _) ⟨ad.heap.size,0,none⟩ 1 1 [.int .i64 (i:Int)] rfl rfl (by rw [←aW];exact zlH _ _) (by simp [Value.oneCell']) (by decide) (by unfold maxLen;omega) (by omega) (by simp;omega) (w6.heap.size+1) (by simp) ?_;intro gd cd bm j a g _;obtain⟨m,o,I,az⟩:=M.counted (l:=i) (w4:=bm) O (by rw [bi];exact(World.grownBy_alloc _ _ _).trans a) (by rw [bi];rcases g with e|e;exact .inl e;exact .inr (by omega)) (by rw [f.counts,List.map_append,List.map_singleton];exact j);rw [bi] at I;rw [f.counts] at m o;replace F:=F.trans o;obtain⟨G,u⟩:∃ G:Wst,G={ T6 with counts:=S.counts++[i] }:=⟨_,rfl⟩
  replace M:=m.re u.symm;obtain⟨R,v⟩:∃ R,R=[i]:=⟨_,rfl⟩
  have aq:Hid (∀ q∈R,q=i∧0≤x∧y≤16):=hidK (by rw [v];intro q hq;exact⟨List.mem_singleton.1 hq,ag,bb⟩);rw [←v] at u;have ag:R.length≤1:=by rw [v];simp
  replace f:LSt S G P (S.counts++R) (updH (updH S.held i true) n true) d (S.labels+1+1+1):=by rw [u];exact⟨f.lines,rfl,f.deep,f.nk,f.held,f.labels,f.most,f.fs⟩
  replace E:G.lines.length≤1906:=by rw [u];exact E
  clear u v m o aJ aA bi j a g dd zd;obtain⟨dd,zd⟩:=M.deepAt f.deep;go_wp2_with(first
   | (go_at_call 60;refine Hid.out ?_))
 rotate_left;by_cases bk:0≤x
 focus
  have hy':¬y≤16:=fun e=>hR ⟨bk,e⟩;go_wp2_with(first
   | (go_at_call 60;refine Hid.out ?_))
  obtain⟨G,u⟩:∃ G:Wst,G=T6:=⟨_,rfl⟩
  replace M:=M.re u.symm;obtain⟨R,v⟩:∃ R:List Nat,R=[]:=⟨_,rfl⟩
  have aq:Hid (∀ q∈R,q=i∧0≤x∧y≤16):=hidK (by rw [v];intro q hq;cases hq);have ag:R.length≤1:=by rw [v];simp
  replace f:LSt S G P (S.counts++R) (updH (updH S.held i true) n true) d (S.labels+1+1+1):=by rw [u,v,List.append_nil];exact f
  replace E:G.lines.length≤1906:=by rw [u];exact E
  clear u v
 rotate_left
 focus
  go_wp2_with(first
   | (go_at_call 60;refine Hid.out ?_))
  obtain⟨G,u⟩:∃ G:Wst,G=T6:=⟨_,rfl⟩
  replace M:=M.re u.symm;obtain⟨R,v⟩:∃ R:List Nat,R=[]:=⟨_,rfl⟩
  have aq:Hid (∀ q∈R,q=i∧0≤x∧y≤16):=hidK (by rw [v];intro q hq;cases hq);have ag:R.length≤1:=by rw [v];simp
  replace f:LSt S G P (S.counts++R) (updH (updH S.held i true) n true) d (S.labels+1+1+1):=by rw [u,v,List.append_nil];exact f
  replace E:G.lines.length≤1906:=by rw [u];exact E
  clear u v
 all_goals
  unfold Hid;obtain⟨T8,aM⟩:∃ T8:Wst,T8={ G with deep:=d+1 }:=⟨_,rfl⟩
  have M8:=(zpV M (d+1)).re aM.symm;have F8:=F.trans (M.put_fr 20 (.int .i64 ((d+1:Nat):Int)) (by decide) (by decide));have J:LSt S T8 P (S.counts++R) (updH (updH S.held i true) n true) (d+1) (S.labels+1+1+1):=by rw [aM];exact⟨f.lines,f.counts,rfl,f.nk,f.held,f.labels,f.most,f.fs⟩
  have t8:T8.lines.length≤1906:=by rw [aM];exact E
  rw [show((d+1:Nat):Int)=(d:Int)+1 by omega] at M8 F8;clear aM M F;refine(IH B _ b px cv code T8 _ _ M8 J.deep (by rw [J.held];omega) (by rw [J.lines,List.length_append,Hid.out2 N];exact hn') (by rw [J.labels];omega) (by rw [J.nk];exact hnk) (by rw [J.counts,List.length_append];omega)).mono ?_;rintro e w9 ⟨wt,⟨rfl,hwt⟩,A,cc,aK,hAl,bc,k9,V9,m,o,aj⟩;dsimp only;rw [J.nk,J.labels] at aK;rw [J.nk,J.fs,J.held,J.counts] at aj;replace aj:=hidK aj;rw [J.labels] at bc;obtain⟨T9,aN⟩:∃ T9:Wst,T9={ T8 with lines:=T8.lines++A,labels:=cc }:=⟨_,rfl⟩
  have M:=m.re aN.symm;have FB:=F8.trans o;have F:=Fr.refl b px w9 V9;have S9:LSt S T9 (P++A) (S.counts++R) (updH (updH S.held i true) n true) (d+1) cc:=by rw [aN];exact⟨(congrArg (·++A) J.lines).trans (List.append_assoc _ _ _),J.counts,J.deep,J.nk,J.held,rfl,J.most,J.fs⟩
  have hld:zdN (d+1)≤308:=zv3 (by omega);have hcd:zj0 (d+1)≤60:=zxM (by omega);have t9:T9.lines.length≤2214:=by rw [aN];simp;omega
  clear aN m o M8 F8 J t8;obtain⟨dd,zd⟩:=M.deepAt S9.deep;rw [show((d+1:Nat):Int)=(d:Int)+1 by omega] at dd;obtain⟨T,al⟩:∃ T:Wst,T={ T9 with deep:=d }:=⟨_,rfl⟩
  have ae:=(zpV M d).re al.symm;have aG:=F.trans (M.put_fr 20 (.int .i64 (d:Int)) (by decide) (by decide));have r:LSt S T (P++A) (S.counts++R) (updH (updH S.held i true) n true) d cc:=by rw [al];exact⟨S9.lines,S9.counts,rfl,S9.nk,S9.held,S9.labels,S9.most,S9.fs⟩
  have a5:T.lines.length≤2214:=by rw [al];exact t9
  obtain⟨a8,aI,aX,a9,be,aU,hcm2⟩:=ae.cnt1 r.counts;rw [List.length_append] at aU;have bn:=ae.blk.fz 11;clear al M S9 t9 F;go_wp2_with(first
   | (go_at_call 38;refine Hid.out ?_))
  unfold Hid;obtain⟨Mc,fc⟩:=ae.cut (ao:=a8) (cap:=aI) (by rw [r.counts];exact aX) S.counts R r.counts;obtain⟨K,am⟩:∃ K:Wst,K={ T with counts:=S.counts }:=⟨_,rfl⟩
  have M:=Mc.re am.symm;have F:=aG.trans fc;have f:LSt S K (P++A) S.counts (updH (updH S.held i true) n true) d cc:=by rw [am];exact⟨r.lines,rfl,r.deep,r.nk,r.held,r.labels,r.most,r.fs⟩
  have E:K.lines.length≤2214:=by rw [am];exact a5
  clear am Mc fc ae aG r a5 a9 be aX bn dd zd;refine Hid.out ?_;unfold Hid;go_wp2_with(first
   | (go_at_call 38;(with_reducible refine(zbp i O _).mono ?_);rintro e wr ⟨Ar,rfl,ak,H,p⟩;replace M:=M.below p M.base;replace F:=F.trans (.low p))
   | (go_at_call 36;(with_reducible refine(zfb z iz _).mono ?_);rintro e wr ⟨D,rfl,zD,hD,p⟩;have aF:=zfe 7 zD (by decide);replace M:=M.below p M.base;replace F:=F.trans (.low p))
   | (go_at_call 62;refine Hid.out ?_))
  unfold Hid;refine(zbE M (incL i z) _ (zxG H hD) (zbQ (by decide) (by omega) zD) (by omega)).mono ?_;rintro e w12 ⟨rfl,k12,V12,m,o⟩;dsimp only;replace F:=F.trans o;clear o;obtain⟨U,Z⟩:∃ U:Wst,U={ K with lines:=K.lines++[incL i z] }:=⟨_,rfl⟩
  replace M:=m.re Z.symm;replace E:U.lines.length≤2215:=by rw [Z];simp;omega
  replace f:=(f.add (incL i z)).re Z.symm;clear Z m;go_wp2_with(first
   | fail
   | (go_at_call 62;refine Hid.out ?_))
  unfold Hid;refine(zbE M (zcA (S.labels+1)) _ (zng (Hid.out2 W)) (zgn (by decide) q1) (by omega)).mono ?_;rintro e a6 ⟨rfl,k13,V13,m,o⟩;dsimp only;replace F:=F.trans o;clear o;obtain⟨L,aa⟩:∃ L:Wst,L={ U with lines:=U.lines++[zcA (S.labels+1)] }:=⟨_,rfl⟩
  replace M:=m.re aa.symm;replace E:L.lines.length≤2216:=by rw [aa];simp;omega
  replace f:=(f.add (zcA (S.labels+1))).re aa.symm;clear aa m;obtain⟨ao,cap,hv,cl,ho⟩:=M.line1;have C:=zln (Hid.out2 Y);have lb:=M.blk.lt;have ah:=M.base;have qz:¬9223372036854775807<L3.size+1:=by omega
  go_wp2_with(first
   | (at_builtin;refine wpList_append_lies _ rfl _ _ 67 rfl B 9 i0 (.string ByteArray.empty) 1 16 Tryz.under67 ac aC aD aE rfl (by decide) _ _ _ rfl (ho.alloc _) ⟨a6.heap.size,0,none⟩ 1 1 [.string (L3++(⟨#[58]⟩:ByteArray))] rfl rfl (cell_one_new _ _ _) (zdu _) (by decide) (by unfold maxLen;omega) (by omega) (by simp;omega) (a6.heap.size+1) (by simp) ?_))
  intro gb cb an j a g _;obtain⟨m,o,I,az⟩:=M.said (l:=labL (S.labels+1+1+1)) (w4:=an) (by rw [hv];exact(World.grownBy_alloc _ _ _).trans a) (by rw [hv];rcases g with e|e;exact .inl e;exact .inr (by omega)) (by rw [List.map_append,List.map_singleton,C];exact j);rw [hv] at I;replace F:=F.trans o;clear o cl ho j a g C;obtain⟨ap,ab⟩:∃ ap:Wst,ap={ L with lines:=L.lines++[labL (S.labels+1+1+1)] }:=⟨_,rfl⟩
  replace M:=m.re ab.symm;replace E:ap.lines.length≤2217:=by rw [ab];simp;omega
  replace f:=(f.add (labL (S.labels+1+1+1))).re ab.symm;clear ab m hv;have ci:=M.heldAt i O;have zi:=M.blk.fz (3+i);have af:=zhG M i O false;have cn:=af.heldAt n s;have zn:=af.blk.fz (3+n);have a7:=F.trans (M.put_fr (3+i) (.bool false) (by omega) (by omega));have aH:=(zhG af n s false).re (f.done hdp aS ai);have Q:=a7.trans (af.put_fr (3+n) (.bool false) (by omega) (by omega));obtain⟨t,ht,aB,bh⟩:=zxN x y z (((an.setCell ⟨b,1,none⟩ (.slice (some ⟨gb,0,none⟩) (L.lines.length+1) cb)).setCell ⟨b,3+i,none⟩ (.bool false)).setCell ⟨b,3+n,none⟩ (.bool false)) ⟨aY,aZ,a0,a2,aO,aP,aR⟩;replace aB:=hidK aB;have p0:0≤((t:Int)+1)*((wt:Int)+4):=Int.mul_nonneg (by omega) (by omega);have p1:((t:Int)+1)*((wt:Int)+4)≤2501*1073741828:=Int.mul_le_mul (by omega) (by omega) (by omega) (by omega);go_wp2_with(first
   | (go_at_call 40;(with_reducible refine bh.mono ?_);rintro e wz ⟨rfl,bj⟩))
  subst bj;go_ret;refine⟨4+(t+1)*(wt+4),⟨?_,?_⟩,P++A++[incL i z]++[zcA (S.labels+1)]++[labL (S.labels+1+1+1)],cc,?_,?_,?_,_,_,aH,FA.trans (FB.trans Q),fun hlt=>?_⟩
  ·show Ending.returned (.int .i64 (4+((t:Int)+1)*((wt:Int)+4)))=_;simp
  ·have:=Nat.mul_le_mul (show t+1≤2501 by omega) (show wt+4≤1073741828 by omega);omega
  ·have h:=Pc.loop (c:=S.labels) O s (ze7 O ix) (ze7 s iy) (zmX O iz) aK;rw [Hid.out2 N];simpa [List.append_assoc] using h
  ·rw [Hid.out2 N];simp;omega
  ·omega
  ·have hmul:wt+4≤(t+1)*(wt+4):=Nat.le_mul_of_pos_left _ (by omega);have p:=((Hid.out2 aj) (by omega)).mono (Nat.le_refl _) Q.gv Q.fm;have aV:¬n=i:=fun e=>by rw [e] at ai;simp [updH] at ai
   have aT:S.held n=false:=by simpa [updH,aV] using ai
   have h:=Sq.loop (c:=S.labels) O s (fun e=>aV e.symm) aS aT (Q.gv _ (FB.gv _ (Hid.out2 uI))) (Q.gv _ (FB.gv _ (Hid.out2 uN))) aO aP aY aZ a0 a2 (S.counts++R) (fun q hq=>by
    rcases List.mem_append.1 hq with e|e
    ·exact .inl e
    ·exact .inr ((Hid.out2 aq) q e)) p aH.fr1.1 t (Hid.out2 aB) (by omega)
   have h2:=h.mono (zz1 t wt) (fun _ x=>x) (Nat.le_refl _);rw [Hid.out2 N];simpa [List.append_assoc] using h2
end
section
attribute [local go_sem ↓] Go.wp_at_zero Go.wp_at_succ
def zj2(d most lab:Nat)(P:Nat→Prop)(f:Nat):Prop:=∀(B:Nat) (w:World) (b px:Nat) (cv:Value) (code:List Int) (S:Wst) (k:Nat) (V:Nat→Value),WrM B w b px cv code S k V→S.deep=d→zjA S.held≤2*d→S.lines.length≤zho d+zdN d→S.labels≤znf d+zj0 d→S.nk≤100→S.counts.length≤d →
 Calls Tryz.prog f #[.pointer (some ⟨b,0,none⟩)] w fun e w'=>∃ n:Nat,(e=.returned (.int .i64 (n:Int))∧P n)∧PcPost B w b px cv code V S most lab w' n
theorem PcPost.mono{B:Nat}{w:World}{b px:Nat}{cv:Value}{code:List Int}{V:Nat→Value}{S:Wst}{m1 m2 l1 l2 z:Nat}{w':World}(h:PcPost B w b px cv code V S m1 l1 w' z)(hm:m1≤m2)(hl:l1≤l2):PcPost B w b px cv code V S m2 l2 w' z:=by
 obtain⟨A,c,a,h2,h3,d⟩:=h;exact⟨A,c,a,by omega,by omega,d⟩
theorem zeT(d:Nat):zdN d≤1268:=by
 unfold zdN;split
 ·decide
 ·split
  ·decide
  ·split <;> decide
theorem zoT{d:Nat}(h:d<3):zho (d+1)=zho d+zdN d+6:=by
 have:d=0∨d=1∨d=2:=by omega
 rcases this with rfl|rfl|rfl <;> rfl
theorem zsp{d:Nat}(h:d<3):znf (d+1)=znf d+zj0 d+3:=by
 have:d=0∨d=1∨d=2:=by omega
 rcases this with rfl|rfl|rfl <;> rfl
def zei(d:Nat):Nat:=if d<3 then 9+zdN (d+1) else 2
def zcV(d:Nat):Nat:=if d<3 then 3+zj0 (d+1) else 0
theorem zoU{d:Nat}(h:d≤3):zdN d=4*zei d:=by
 have:d=0∨d=1∨d=2∨d=3:=by omega
 rcases this with rfl|rfl|rfl|rfl <;> rfl
theorem zsq{d:Nat}(h:d≤3):zj0 d=4*zcV d:=by
 have:d=0∨d=1∨d=2∨d=3:=by omega
 rcases this with rfl|rfl|rfl|rfl <;> rfl
theorem zsr(d:Nat):2≤zei d:=by
 unfold zei;split <;> omega
theorem zoV(d:Nat)(hd:d≤3):zj2 d 2 0 (fun n=>n≤1000000000000000) 94:=fun B w b px cv code S k V M h1 h2 h3 h4 h5 h6=>by
 obtain⟨rf,hrf,hf⟩:=ze8 (h:=S.held) (by omega);refine(zll M rf hrf hf (by have:=ze9 d;have:=zeT d;omega)).mono ?_;rintro e w' ⟨rfl,hp⟩;exact⟨1,⟨rfl,by omega⟩,zvr (Fr.refl _ _ _ _) hp⟩
theorem zoW(d:Nat)(hd:d≤3):zj2 d 2 0 (fun n=>n≤1000000000000000) 95:=fun B w b px cv code S k V M h1 h2 h3 h4 h5 h6=>by
 obtain⟨rf,hrf,hf⟩:=ze8 (h:=S.held) (by omega);refine(zxH M rf hrf hf (by have:=ze9 d;have:=zeT d;omega)).mono ?_;rintro e w' ⟨n,⟨rfl,hn⟩,hp⟩;exact⟨n,⟨rfl,by omega⟩,hp⟩
theorem znh(d:Nat)(hd:d≤3):zj2 d 2 0 (fun n=>n≤1000000000000000) 61:=fun B w b px cv code S k V M h1 h2 h3 h4 h5 h6=>by
 obtain⟨rf,hrf,hf⟩:=ze8 (h:=S.held) (by omega);refine(znd M rf hrf hf (by have:=ze9 d;have:=zeT d;omega) (by omega) (fun W k2 V2 M2=>zll M2 rf hrf hf (by have:=ze9 d;have:=zeT d;omega))).mono ?_;rintro e w' ⟨n,⟨rfl,hn⟩,hp⟩;exact⟨n,⟨rfl,by omega⟩,hp⟩
theorem zgR(d:Nat)(hd:d<3)(IH:zj1 (d+1)):zj2 d (9+zdN (d+1)) (3+zj0 (d+1)) (fun n=>n≤1000000000000000) 93:=fun B w b px cv code S k V M h1 h2 h3 h4 h5 h6=>by
 refine(zz2 d hd IH M h1 h2 (by rw [zoT hd];omega) (by rw [zsp hd];omega) h5 h6).mono ?_;rintro e w' ⟨n,⟨rfl,hn⟩,hp⟩;exact⟨n,⟨rfl,by omega⟩,hp⟩
structure BSt(S T:Wst)(A:List Ln):Prop where
 eq:T={ S with lines:=S.lines++A,labels:=T.labels }
 pc:Pc S.nk S.labels T.labels A
theorem BSt.start(S:Wst):BSt S S []:=⟨by simp,.nil _⟩
theorem BSt.add{S T:Wst}{A:List Ln}(h:BSt S T A){A2:List Ln}{c:Nat}(hp:Pc T.nk T.labels c A2):BSt S { T with lines:=T.lines++A2,labels:=c } (A++A2):=by
 obtain⟨a,b⟩:=h;have hk:T.nk=S.nk:=by rw [a]
 have d:T.lines=S.lines++A:=by rw [a]
 refine⟨?_,?_⟩
 ·have:{ T with lines:=T.lines++A2,labels:=c }=({ ({ S with lines:=S.lines++A,labels:=T.labels }:Wst) with lines:=T.lines++A2,labels:=c }:Wst):=by rw [←a]
  rw [this,d,List.append_assoc]
 ·rw [hk] at hp;exact .app b hp
theorem zhz{nk n b px:Nat}{fs:Nat→Fw}{H:Nat→Bool}{Cn:List Nat}{A:List Ln}{V V':Nat→Value}{w w':World}(h:Hid (n<1073741824→Sq nk fs H Cn A n (gvOf V) (frOf V)))(f:Fr b px w V w' V'):Hid (n<1073741824→Sq nk fs H Cn A n (gvOf V') (frOf V')):=hidK fun hn=>((Hid.out2 h) hn).mono (Nat.le_refl _) f.gv f.fm
theorem zz3{S T:Wst}{A A2:List Ln}{n m:Nat}{V:Nat→Value}(hB:BSt S T A)(h1:Hid (n<1073741824→Sq S.nk S.fs S.held S.counts A n (gvOf V) (frOf V)))(h2:m<1073741824→Sq T.nk T.fs T.held T.counts A2 m (gvOf V) (frOf V))(h:n+m<1073741824):Sq S.nk S.fs S.held S.counts (A++A2) (n+m) (gvOf V) (frOf V):=by
 have e:=hB.eq;have e1:T.nk=S.nk:=by rw [e]
 have a:T.fs=S.fs:=by rw [e]
 have b:T.held=S.held:=by rw [e]
 have c:T.counts=S.counts:=by rw [e]
 rw [e1,a,b,c] at h2;exact((Hid.out2 h1) (by omega)).app (h2 (by omega))
theorem WrM.c1{B:Nat}{w:World}{b px:Nat}{cv:Value}{code:List Int}{S:Wst}{k:Nat}{V:Nat→Value}(h:WrM B w b px cv code S k V):w.cell? ⟨b,21,none⟩=some (.int .i64 S.most):=by rw [←h.v21];exact h.blk.cell 21 (by omega)
end
section
theorem hid0{p:Prop}(h:p):Hid p:=h
attribute [local go_sem ↓] Go.wp_at_zero Go.wp_at_succ
theorem zlq(d:Nat)(hd:d≤3)(hlo:d<3→zj2 d (zei d) (zcV d) (fun n=>n≤1000000000000000) 93):zj1 d:=by
 intro B w b J L a S k V M0 bF hh hn hlb bJ bC;have O:=zoV d hd;have bL:=zoW d hd;have bB:=znh d hd;have F0:=Fr.refl b J w V;have c0:=M0.cx;have p2:=zsr d;have l4:=zoU hd;have b4:=zsq hd;go_enter Tryz.func60,Tryz.ntmps60;go_wp2_with(first
  | (go_at_call 41;(with_reducible refine(zax M0 4 (by omega)).mono ?_);rintro e w1 ⟨t,rfl,ht,k1,V1,M1,f1⟩;refine Hid.out ?_))
 unfold Hid;go_wp2_with fail
 have F1:=F0.trans f1;clear c0 F0 f1 M0
 go_loopw [3,4] (fun tw tk wr=>∃(n r:Nat) (T:Wst) (A:List Ln) (k':Nat) (V':Nat→Value),tw=.int .i64 (n:Int)∧n≤1073741824∧tk=.int .i64 (r:Int)∧r≤4∧BSt S T A∧A.length≤(4-r)*zei d∧T.labels≤S.labels+(4-r)*zcV d∧WrM B wr b J L a T k' V'∧Fr b J w V wr V'∧Hid (n<1073741824→Sq S.nk S.fs S.held S.counts A n (gvOf V') (frOf V'))) (fun _ tk _=>(intOf tk).toNat)
 case atStart=>exact⟨0,1+t,S,[],k1,V1,rfl,by omega,by go_num,by omega,BSt.start S,by simp,by omega,M1,F1,hidK fun _=>Sq.nil.mono (Nat.le_refl _) (fun _ h=>h) M1.fr1.1⟩
 case round =>
  obtain⟨n,r,T,A,k2,V2,rfl,af,rfl,hr,hB,hA,hL,M,F,P⟩:=hrel;clear M1 F1;have cl:=M.line1;obtain⟨ao,cap,hv,cl,_⟩:=cl;have bz:=M.c1;by_cases bK:r=0
  ·subst bK;go_wp2_with fail
   go_quiet(fail)
   go_wp2;go_ret;refine⟨n,⟨rfl,af⟩,A,T.labels,hB.pc,by rw [l4];omega,by rw [b4];omega,k2,V2,(M.drewN _).re hB.eq,F.trans (Fr.low (zbD _ _ _)),Hid.out2 P⟩
  ·have hrp:(0:Int)<(r:Int):=by omega
   have ag:0<r:=by omega
   have hrd:decide (0<r)=true:=by simpa using ag
   have hrd2:decide ((0:Int)<(r:Int))=true:=by simpa using ag
   by_cases bI:(T.lines.length:Int)<T.most
   ·go_wp2_with fail
    go_quiet(fail)
    have M3:=M.drewN nq;have F3:=F.trans (Fr.low (zbD _ nq _));have c3:=M3.cx;generalize wr.drewN nq=w3 at M3 F3 c3 ⊢;have q1:(4-r)*zei d≤4*zei d:=Nat.mul_le_mul_right _ (by omega);have q2:(4-r)*zcV d≤4*zcV d:=Nat.mul_le_mul_right _ (by omega);have q3:(4-(r-1))*zei d=(4-r)*zei d+zei d:=by rw [show 4-(r-1)=4-r+1 by omega,Nat.add_mul,Nat.one_mul]
    have q4:(4-(r-1))*zcV d=(4-r)*zcV d+zcV d:=by rw [show 4-(r-1)=4-r+1 by omega,Nat.add_mul,Nat.one_mul]
    have Q:T.deep=d:=by rw [hB.eq];exact bF
    have U:zjA T.held≤2*d:=by rw [hB.eq];exact hh
    have X:T.lines.length≤zho d+zdN d:=by rw [hB.eq];show(S.lines++A).length≤_;rw [List.length_append,l4];omega
    have Y:T.labels≤znf d+zj0 d:=by rw [b4];omega
    have Z:T.nk≤100:=by rw [hB.eq];exact bJ
    have e6:T.counts.length≤d:=by rw [hB.eq];exact bC
    clear cl bz M F hv bI;go_wp2_with(first
     | (go_at_call 41;(with_reducible refine(zax M3 6 (by omega)).mono ?_);rintro e w4 ⟨s,rfl,hs,k4,V4,x,f4⟩;have D:=F3.trans f4;refine Hid.out ?_))
    unfold Hid;have u:=zhz P f4;clear P;rename_i K3 hK3 K2 hK2 K1 hK1 K0 hK0;have R:∀(ai aj ak al am an ap aq ar au av aw ax ay az aA aB aC aD aE aF aG aH aI aJ aK aL aM aN aO aP aQ aR aS aT aU aV aW aX aY aZ a0 a1 a2 a3 a4 a5 a6 a7 a8 a9 bb bc bd be bf bg bh bi bj bk bl bm bn bo bp bq br bs bu bv bw bx:Value) (m:Nat) (W:World) (v:List Ln) (c z:Nat) (q:Nat→Value),m≤1000000000000000→Pc T.nk T.labels c v→v.length≤zei d→c≤T.labels+zcV d→WrM B W b J L a { T with lines:=T.lines++v,labels:=c } z q→Fr b J w V W q→Hid (n<1073741824→Sq S.nk S.fs S.held S.counts A n (gvOf q) (frOf q))→(m<1073741824→Sq T.nk T.fs T.held T.counts v m (gvOf q) (frOf q))→K2 ⟨List.toArray (.pointer (some ⟨b,0,none⟩) :: undef :: .int .i64 0 :: .int .i64 ((n:Int)+(m:Int)) :: .int .i64 (r:Int) :: .pointer (some ⟨b,0,none⟩) :: .pointer (some ⟨b,0,none⟩) :: .pointer (some ⟨b,0,none⟩) :: .pointer (some ⟨J,0,none⟩) :: .int .i64 (t:Int) :: .int .i64 (1+(t:Int)) :: ai :: aj :: ak :: al :: am :: an :: ap :: aq :: ar :: au :: av :: aw :: ax :: ay :: az :: aA :: aB :: aC :: aD :: aE :: aF :: aG :: aH :: aI :: aJ :: aK :: aL :: aM :: aN :: aO :: aP :: aQ :: aR :: aS :: aT :: aU :: aV :: aW :: aX :: aY :: aZ :: a0 :: a1 :: a2 :: a3 :: a4 :: a5 :: a6 :: a7 :: a8 :: a9 :: bb :: bc :: bd :: be :: bf :: bg :: bh :: bi :: bj :: bk :: bl :: bm :: bn :: bo :: bp :: bq :: br :: bs :: bu :: bv :: bw :: bx :: undef :: []),[]⟩ W:=by
     intro ai aj ak al am an ap aq ar au av aw ax ay az aA aB aC aD aE aF aG aH aI aJ aK aL aM aN aO aP aQ aR aS aT aU aV aW aX aY aZ a0 a1 a2 a3 a4 a5 a6 a7 a8 a9 bb bc bd be bf bg bh bi bj bk bl bm bn bo bp bq br bs bu bv bw bx m W v c z q l H j i G E ah I;refine hK2 _ _ ?_;have ab:=hB.add H;have hri:((r-1:Nat):Int)=(r:Int)-1:=by omega
     have hnm:((n+m:Nat):Int)=(n:Int)+(m:Int):=by omega
     have ad:(A++v).length≤(4-(r-1))*zei d:=by rw [List.length_append,q3];omega
     have ac:c≤S.labels+(4-(r-1))*zcV d:=by rw [q4];omega
     by_cases hbig:1073741824<n+m
     ·have bA:(1073741824:Int)<(n:Int)+(m:Int):=by omega
      go_wp2;go_roundw
      case rel=>exact⟨1073741824,r-1,_,A++v,z,q,rfl,by omega,by rw [hri],by omega,ab,ad,ac,G,E,hidK fun h=>absurd h (by omega)⟩
      case measure=>simp [intOf];omega
     ·have bA:¬(1073741824:Int)<(n:Int)+(m:Int):=by omega
      go_wp2;go_roundw
      case rel=>exact⟨n+m,r-1,_,A++v,z,q,by rw [hnm],by omega,by rw [hri],by omega,ab,ad,ac,G,E,hidK fun h=>zz3 hB ah I h⟩
      case measure=>simp [intOf];omega
    clear hK3 hK2 hB hA hL;refine hK0 _ _ ?_;have g:=hid0 R;clear R;have hs6:s=0∨s=1∨s=2∨s=3∨s=4∨s=5:=by omega
    have g0:=x.cx;obtain⟨g20,_⟩:=x.deepAt Q;have x0:=x.blk.di.c0;have x1:=x.blk.di.c1;have hlen:=x.blk.di.len;obtain⟨xo,xc,hxv,_,_⟩:=x.blk.di.row;rw [hxv] at x0;clear c3 f4 M3 F3;by_cases ah:s≤1
    ·have I:s=0∨s=1:=by omega
     by_cases aa:d<3
     ·have bD:decide (d<3)=true:=by simpa using aa
      have bE:decide ((d:Int)<3)=true:=decide_eq_true (by omega);have ae:=hlo aa;by_cases N:k4<a.length
      ·have bG:decide (k4<a.length)=true:=by simpa using N
       have bH:decide ((k4:Int)<(a.length:Int))=true:=by simpa using N
       rcases I with rfl|rfl
       all_goals
        go_wp2_with fail
        go_quiet(fail)
        replace x:=x.drewN nq;replace D:=D.trans (Fr.low (zbD _ nq _));generalize w4.drewN nq=w4 at x D ⊢;go_wp2_with(first
         | (go_at_call 93;refine Hid.out ?_))
        unfold Hid;refine(ae B _ b J L a T _ _ x Q U X Y Z e6).mono ?_;rintro e K ⟨m,⟨rfl,l⟩,o⟩;dsimp only;replace l:m≤1000000000000000:=l;obtain⟨v,c,H,j,i,z,q,G,y,p⟩:=o.mono (Nat.le_refl _) (Nat.le_refl _);have E:=D.trans y;have f:=zhz u y;replace p:=hidK p;go_wp2_with fail
        exact(Hid.out2 g) _ _ _ _ _ _ _ _ _ _ _ _ _ _ _ _ _ _ _ _ _ _ _ _ _ _ _ _ _ _ _ _ _ _ _ _ _ _ _ _ _ _ _ _ _ _ _ _ _ _ _ _ _ _ _ _ _ _ _ _ _ _ _ _ _ _ _ _ _ _ _ _ _ m K v c z q l H j i G E f (Hid.out2 p)
      ·have bG:decide (k4<a.length)=false:=by simpa using N
       have bH:decide ((k4:Int)<(a.length:Int))=false:=by simpa using N
       rcases I with rfl|rfl
       all_goals
        go_wp2_with fail
        go_quiet(fail)
        replace x:=x.drewN nq;replace D:=D.trans (Fr.low (zbD _ nq _));generalize w4.drewN nq=w4 at x D ⊢;go_wp2_with(first
         | (go_at_call 94;refine Hid.out ?_))
        unfold Hid;refine(O B _ b J L a T _ _ x Q U X Y Z e6).mono ?_;rintro e K ⟨m,⟨rfl,l⟩,o⟩;dsimp only;replace l:m≤1000000000000000:=l;obtain⟨v,c,H,j,i,z,q,G,y,p⟩:=o.mono p2 (Nat.zero_le (zcV d));have E:=D.trans y;have f:=zhz u y;replace p:=hidK p;go_wp2_with fail
        exact(Hid.out2 g) _ _ _ _ _ _ _ _ _ _ _ _ _ _ _ _ _ _ _ _ _ _ _ _ _ _ _ _ _ _ _ _ _ _ _ _ _ _ _ _ _ _ _ _ _ _ _ _ _ _ _ _ _ _ _ _ _ _ _ _ _ _ _ _ _ _ _ _ _ _ _ _ _ m K v c z q l H j i G E f (Hid.out2 p)
     ·have bD:decide (d<3)=false:=by simpa using aa
      have bE:decide ((d:Int)<3)=false:=decide_eq_false (by omega);rcases I with rfl|rfl
      all_goals
       go_wp2_with fail
       go_quiet(fail)
       replace x:=x.drewN nq;replace D:=D.trans (Fr.low (zbD _ nq _));generalize w4.drewN nq=w4 at x D ⊢;go_wp2_with(first
        | (go_at_call 94;refine Hid.out ?_))
       unfold Hid;refine(O B _ b J L a T _ _ x Q U X Y Z e6).mono ?_;rintro e K ⟨m,⟨rfl,l⟩,o⟩;dsimp only;replace l:m≤1000000000000000:=l;obtain⟨v,c,H,j,i,z,q,G,y,p⟩:=o.mono p2 (Nat.zero_le (zcV d));have E:=D.trans y;have f:=zhz u y;replace p:=hidK p;go_wp2_with fail
       exact(Hid.out2 g) _ _ _ _ _ _ _ _ _ _ _ _ _ _ _ _ _ _ _ _ _ _ _ _ _ _ _ _ _ _ _ _ _ _ _ _ _ _ _ _ _ _ _ _ _ _ _ _ _ _ _ _ _ _ _ _ _ _ _ _ _ _ _ _ _ _ _ _ _ _ _ _ _ m K v c z q l H j i G E f (Hid.out2 p)
    ·have I:s=2∨s=3∨s=4∨s=5:=by omega
     rcases I with rfl|rfl|rfl|rfl
     ·go_wp2_with(first
       | (go_at_call 95;refine Hid.out ?_))
      unfold Hid;refine(bL B _ b J L a T _ _ x Q U X Y Z e6).mono ?_;rintro e K ⟨m,⟨rfl,l⟩,o⟩;dsimp only;replace l:m≤1000000000000000:=l;obtain⟨v,c,H,j,i,z,q,G,y,p⟩:=o.mono p2 (Nat.zero_le (zcV d));have E:=D.trans y;have f:=zhz u y;replace p:=hidK p;go_wp2_with fail
      exact(Hid.out2 g) _ _ _ _ _ _ _ _ _ _ _ _ _ _ _ _ _ _ _ _ _ _ _ _ _ _ _ _ _ _ _ _ _ _ _ _ _ _ _ _ _ _ _ _ _ _ _ _ _ _ _ _ _ _ _ _ _ _ _ _ _ _ _ _ _ _ _ _ _ _ _ _ _ m K v c z q l H j i G E f (Hid.out2 p)
     ·go_wp2_with(first
       | (go_at_call 61;refine Hid.out ?_))
      unfold Hid;refine(bB B _ b J L a T _ _ x Q U X Y Z e6).mono ?_;rintro e K ⟨m,⟨rfl,l⟩,o⟩;dsimp only;replace l:m≤1000000000000000:=l;obtain⟨v,c,H,j,i,z,q,G,y,p⟩:=o.mono p2 (Nat.zero_le (zcV d));have E:=D.trans y;have f:=zhz u y;replace p:=hidK p;go_wp2_with fail
      exact(Hid.out2 g) _ _ _ _ _ _ _ _ _ _ _ _ _ _ _ _ _ _ _ _ _ _ _ _ _ _ _ _ _ _ _ _ _ _ _ _ _ _ _ _ _ _ _ _ _ _ _ _ _ _ _ _ _ _ _ _ _ _ _ _ _ _ _ _ _ _ _ _ _ _ _ _ _ m K v c z q l H j i G E f (Hid.out2 p)
     ·go_wp2_with(first
       | (go_at_call 94;refine Hid.out ?_))
      unfold Hid;refine(O B _ b J L a T _ _ x Q U X Y Z e6).mono ?_;rintro e K ⟨m,⟨rfl,l⟩,o⟩;dsimp only;replace l:m≤1000000000000000:=l;obtain⟨v,c,H,j,i,z,q,G,y,p⟩:=o.mono p2 (Nat.zero_le (zcV d));have E:=D.trans y;have f:=zhz u y;replace p:=hidK p;go_wp2_with fail
      exact(Hid.out2 g) _ _ _ _ _ _ _ _ _ _ _ _ _ _ _ _ _ _ _ _ _ _ _ _ _ _ _ _ _ _ _ _ _ _ _ _ _ _ _ _ _ _ _ _ _ _ _ _ _ _ _ _ _ _ _ _ _ _ _ _ _ _ _ _ _ _ _ _ _ _ _ _ _ m K v c z q l H j i G E f (Hid.out2 p)
     ·go_wp2_with(first
       | (go_at_call 94;refine Hid.out ?_))
      unfold Hid;refine(O B _ b J L a T _ _ x Q U X Y Z e6).mono ?_;rintro e K ⟨m,⟨rfl,l⟩,o⟩;dsimp only;replace l:m≤1000000000000000:=l;obtain⟨v,c,H,j,i,z,q,G,y,p⟩:=o.mono p2 (Nat.zero_le (zcV d));have E:=D.trans y;have f:=zhz u y;replace p:=hidK p;go_wp2_with fail
      exact(Hid.out2 g) _ _ _ _ _ _ _ _ _ _ _ _ _ _ _ _ _ _ _ _ _ _ _ _ _ _ _ _ _ _ _ _ _ _ _ _ _ _ _ _ _ _ _ _ _ _ _ _ _ _ _ _ _ _ _ _ _ _ _ _ _ _ _ _ _ _ _ _ _ _ _ _ _ m K v c z q l H j i G E f (Hid.out2 p)
   ·go_wp2_with fail
    go_quiet(fail)
    go_wp2;go_ret;refine⟨n,⟨rfl,af⟩,A,T.labels,hB.pc,?_,?_,k2,V2,(M.drewN _).re hB.eq,F.trans (Fr.low (zbD _ _ _)),Hid.out2 P⟩
    ·rw [l4];exact Nat.le_trans hA (Nat.mul_le_mul_right _ (by omega))
    ·rw [b4];exact Nat.le_trans hL (Nat.add_le_add_left (Nat.mul_le_mul_right _ (by omega)) _)
theorem zAv:zj1 3:=zlq 3 (by omega) (fun h=>absurd h (by omega))
theorem zAw:zj1 2:=zlq 2 (by omega) (fun _=>zgR 2 (by omega) zAv)
theorem zAx:zj1 1:=zlq 1 (by omega) (fun _=>zgR 1 (by omega) zAw)
theorem zAy:zj1 0:=zlq 0 (by omega) (fun _=>zgR 0 (by omega) zAx)
end
end Go.Proofs.YtfpgjkbjbbgciaaGreatDoor
