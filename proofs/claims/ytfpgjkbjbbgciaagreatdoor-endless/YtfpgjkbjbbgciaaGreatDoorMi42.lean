import Derived.Test.YtfpgjkbjbbgciaaGreatDoorMi25
import Derived.Test.YtfpgjkbjbbgciaaGreatDoorMi27
import Derived.Test.YtfpgjkbjbbgciaaGreatDoorMi34
import Derived.Test.YtfpgjkbjbbgciaaGreatDoorMi35
import Derived.Test.YtfpgjkbjbbgciaaGreatDoorMi41
set_option maxRecDepth 100000
set_option maxHeartbeats 8000000
namespace Go.Proofs.YtfpgjkbjbbgciaaGreatDoor
section
open Go.RowKit Sp
attribute [local go_sem ↓] Go.wp_at_zero Go.wp_at_succ
def zdQ(d:Nat):Nat:=if d=0 then 1268 else if d=1 then 308 else if d=2 then 68 else 8
def zjh(d:Nat):Nat:=if d=0 then 252 else if d=1 then 60 else if d=2 then 12 else 0
def zhl(d:Nat):Nat:=if d=0 then 100 else if d=1 then 1374 else if d=2 then 1688 else 1762
def zmH(d:Nat):Nat:=if d=0 then 10 else if d=1 then 265 else if d=2 then 328 else 343
theorem zeI(d:Nat):zhl d≤1762:=by
 unfold zhl
 split
 ·decide
 ·split
  ·decide
  ·split <;> decide
theorem zxd(d:Nat):zmH d≤343:=by
 unfold zmH
 split
 ·decide
 ·split
  ·decide
  ·split <;> decide
def zji(d:Nat):Prop:=∀(B:Nat) (w:World) (b px:Nat) (cv:Value) (code:List Int) (S:Wst) (k:Nat) (V:Nat→Value),WrM B w b px cv code S k V→S.deep=d→zjr S.held≤2*d→S.lines.length≤zhl d→S.labels≤zmH d→S.nk≤100→S.counts.length≤d →
 Calls Tryz.prog 60 #[.pointer (some ⟨b,0,none⟩)] w fun e w'=>(∃ n:Nat,e=.returned (.int .i64 (n:Int))∧n≤1073741824)∧PcPost B w b px cv code V S (zdQ d) (zjh d) w'
theorem zuP{i n m:Nat}{A D:ByteArray}{L:ByteArray}(h1:Hid (A=ba (regW i)))(h2:Hid (D=ba (regW n)))(h3:L=ba (labW m)):ba (zgm i n m).bytes=ba [9]++((⟨#[108,101,115,115,32]⟩:ByteArray)++A++(⟨#[32]⟩:ByteArray)++D++(⟨#[32]⟩:ByteArray)++L):=by
 rw [show A=_ from h1,show D=_ from h2,h3];exact ln3 _ _ _ _
theorem zmI{m:Nat}{L:ByteArray}(h3:L=ba (labW m)):ba (zdt m).bytes=ba [9]++((⟨#[106,117,109,112,32]⟩:ByteArray)++L):=by
 rw [h3];exact ln1 _ _
theorem zkL{m:Nat}{L:ByteArray}(h3:L=ba (labW m)):lnV (labL m)=.string (L++(⟨#[58]⟩:ByteArray)):=by
 rw [h3]
 have e:(⟨#[58]⟩:ByteArray)=ba [58]:=rfl
 rw [e,zc8]
 unfold lnV
 refine congrArg _ (congrArg ba ?_)
 simp [Ln.bytes,Ln.blank,zcj,labL]
theorem zkM(n:Nat)(h:n≤1000000):(ba (labW n)).size≤10:=by
 have:=zeZ 6 n (by omega)
 show(decL n).length+1≤10
 omega
structure LSt(S T:Wst)(A:List Ln)(C:List Nat)(H:Nat→Bool)(d lab:Nat):Prop where
 lines:T.lines=S.lines++A
 counts:T.counts=C
 deep:T.deep=d
 nk:T.nk=S.nk
 held:T.held=H
 labels:T.labels=lab
 most:T.most=S.most
theorem LSt.add{S T:Wst}{A:List Ln}{C:List Nat}{H:Nat→Bool}{d lab:Nat}(h:LSt S T A C H d lab)(l:Ln):LSt S { T with lines:=T.lines++[l] } (A++[l]) C H d lab:=⟨by show T.lines++[l]=_;rw [h.lines,List.append_assoc],h.counts,h.deep,h.nk,h.held,h.labels,h.most⟩
theorem LSt.re{S T T2:Wst}{A:List Ln}{C:List Nat}{H:Nat→Bool}{d lab:Nat}(h:LSt S T A C H d lab)(e:T=T2):LSt S T2 A C H d lab:=e▸h
theorem WrM.cnt1{B:Nat}{w:World}{b px:Nat}{cv:Value}{code:List Int}{S:Wst}{k:Nat}{V:Nat→Value}(h:WrM B w b px cv code S k V){C:List Nat}(hC:S.counts=C):∃ ao cap,V 11=.slice ao C.length cap∧w.cell? ⟨b,11,none⟩=some (.slice ao C.length cap)∧w.ownsRow B 3 1 (.slice ao C.length cap) C.length (C.map natV)∧C.length≤cap∧cap≤maxLen:=by
 subst hC
 obtain⟨ao,cap,hv,h1,h2,_⟩:=zdE h.counts
 exact⟨ao,cap,hv,by rw [←hv];exact h.blk.cell 11 (by omega),by rw [←hv];exact h.counts,h1,h2⟩
theorem WrM.deepAt{B:Nat}{w:World}{b px:Nat}{cv:Value}{code:List Int}{S:Wst}{k:Nat}{V:Nat→Value}(h:WrM B w b px cv code S k V){d:Nat}(hd:S.deep=d):w.cell? ⟨b,20,none⟩=some (.int .i64 (d:Int))∧w.frozen? ⟨b,20,none⟩=false:=by
 subst hd
 exact⟨h.dp,h.blk.fz 20⟩
theorem zuQ{d:Nat}(h:¬d=0):zdQ d≤308:=by
 unfold zdQ;rw [if_neg h]
 split
 ·exact Nat.le_refl _
 ·split <;> decide
theorem zxe{d:Nat}(h:¬d=0):zjh d≤60:=by
 unfold zjh;rw [if_neg h]
 split
 ·exact Nat.le_refl _
 ·split <;> decide
theorem LSt.done{S T:Wst}{A:List Ln}{i n d cc:Nat}(h:LSt S T A S.counts (updH (updH S.held i true) n true) d cc)(hd:S.deep=d)(hi:S.held i=false)(hn:updH S.held i true n=false):{ T with held:=updH (updH T.held i false) n false }={ S with lines:=S.lines++A,labels:=cc }:=by
 obtain⟨h1,h2,h3,h4,h5,h6,h7⟩:=h
 obtain⟨t1,t2,t3,t4,t5,t6,t7⟩:=T
 obtain⟨s1,s2,s3,s4,s5,s6,s7⟩:=S
 simp only at h1 h2 h3 h4 h5 h6 h7 hd hi hn ⊢
 subst h1 h2 h3 h4 h5 h6 h7 hd
 rw [zuO hi hn]
theorem zxf(a l b:Int)(w:World)(E:EndsOk a l b):∃ t:Nat,t≤2500∧Calls Tryz.prog 40 #[.int .i64 a,.int .i64 l,.int .i64 b] w fun e w'=>e=.returned (.int .i64 (t:Int))∧w'=w:=by
 obtain⟨a0,a1,l0,l1,b0,b1,hf⟩:=E
 by_cases h:l≤a
 ·refine⟨0,by omega,?_⟩
  go_enter Tryz.func40,Tryz.ntmps40
  go_wp2
  go_ret
  exact⟨rfl,rfl⟩
 ·have e3:(l-a-1).tdiv b=(l-a-1)/b:=Int.tdiv_eq_ediv_of_nonneg (by omega)
  have q0:0≤(l-a-1)/b:=Int.ediv_nonneg (by omega) (by omega)
  have q1:(l-a-1)/b<2500:=Int.ediv_lt_of_lt_mul (by omega) (by omega)
  obtain⟨q,hq⟩:=Int.eq_ofNat_of_zero_le q0
  rw [hq] at e3 q1
  refine⟨q+1,by omega,?_⟩
  go_enter Tryz.func40,Tryz.ntmps40
  go_wp2
  go_ret
  exact⟨by go_num,rfl⟩
theorem WrM.re{B:Nat}{w:World}{b px:Nat}{cv:Value}{code:List Int}{S S2:Wst}{k:Nat}{V:Nat→Value}(h:WrM B w b px cv code S k V)(e:S=S2):WrM B w b px cv code S2 k V:=e▸h
theorem zrH{A D L:ByteArray}(h1:A.size=2)(h2:D.size=2)(h3:L.size≤21):((⟨#[108,101,115,115,32]⟩:ByteArray)++A++(⟨#[32]⟩:ByteArray)++D++(⟨#[32]⟩:ByteArray)++L).size≤1000:=by
 have e:(⟨#[32]⟩:ByteArray).size=1:=rfl
 have e2:(⟨#[108,101,115,115,32]⟩:ByteArray).size=5:=rfl
 simp only [ByteArray.size_append]
 omega
theorem WrM.line1{B:Nat}{w:World}{b px:Nat}{cv:Value}{code:List Int}{S:Wst}{k:Nat}{V:Nat→Value}(h:WrM B w b px cv code S k V):∃ ao cap,V 1=.slice ao S.lines.length cap∧w.cell? ⟨b,1,none⟩=some (.slice ao S.lines.length cap)∧w.ownsRow B 9 1 (.slice ao S.lines.length cap) S.lines.length (S.lines.map lnV):=by
 obtain⟨ao,cap,hv⟩:=zbb h.lines
 exact⟨ao,cap,hv,by rw [←hv];exact h.blk.cell 1 (by omega),by rw [←hv];exact h.lines⟩
theorem zyO(d:Nat)(hd:d<3)(IH:zji (d+1)){B:Nat}{w:World}{b px:Nat}{cv:Value}{code:List Int}{S:Wst}{k:Nat}{V:Nat→Value}(M0:WrM B w b px cv code S k V)(hdp:S.deep=d)(hh:zjr S.held≤2*d)(hn':S.lines.length+6≤zhl (d+1))(hlb':S.labels+3≤zmH (d+1))(hnk:S.nk≤100)(hcnt:S.counts.length≤d):
  Calls Tryz.prog 93 #[.pointer (some ⟨b,0,none⟩)] w fun e w'=>(∃ n:Nat,e=.returned (.int .i64 (n:Int))∧n≤3000000000000)∧PcPost B w b px cv code V S (9+zdQ (d+1)) (3+zjh (d+1)) w':=by
 have hn:S.lines.length≤1900:=by have:=zeI (d+1);omega
 have hlb:S.labels≤900:=by have:=zxd (d+1);omega
 have F0:=Fr.refl b px w V
 obtain⟨rf,hrf,hf⟩:=zeH (h:=S.held) (by omega)
 go_enter Tryz.func93,Tryz.ntmps93
 go_wp2_with(first
  | (go_at_call 118;(with_reducible refine(zcf M0 rf hrf hf).mono ?_);rintro e w1 ⟨i,rfl,hi,hhi,k1,V1,M1,f1⟩;refine Hid.out ?_))
 unfold Hid
 have F1:=F0.trans f1
 have hi0:(0:Int)≤(i:Int):=by omega
 have hi8:(i:Int)<8:=by omega
 have ci:=M1.heldAt i hi
 have zi:=M1.blk.fz (3+i)
 have M2:=zhA M1 i hi true
 have F2:=F1.trans (M1.put_fr (3+i) (.bool true) (by omega) (by omega))
 have h1:=zmG S.held i hi
 obtain⟨rg,hrg,hg⟩:=zeH (h:=updH S.held i true) (by omega)
 go_wp2_with(first
  | (go_at_call 118;(with_reducible refine(zcf M2 rg hrg hg).mono ?_);rintro e w3 ⟨n,rfl,hn8,hhn,k3,V3,M3,f3⟩;refine Hid.out ?_))
 unfold Hid
 have F3:=F2.trans f3
 have hn0:(0:Int)≤(n:Int):=by omega
 have hn9:(n:Int)<8:=by omega
 have cn:=M3.heldAt n hn8
 have zn:=M3.blk.fz (3+n)
 have M4:=zhA M3 n hn8 true
 have F4:=F3.trans (M3.put_fr (3+n) (.bool true) (by omega) (by omega))
 have h2:=zmG (updH S.held i true) n hn8
 clear ci zi F1 F2 F3 f1 f3
 go_wp2_with(first
  | (go_at_call 119;(with_reducible refine(zyN M4).mono ?_);rintro e w5 ⟨x,y,z,rfl,hE,k5,V5,M5,f5⟩;have F5:=F4.trans f5)
  | (go_at_call 120;first
      | ((with_reducible refine(zkH M5 (by show S.labels≤100000;omega)).mono ?_);rintro e w6 ⟨rfl,k6,V6,M6,f6⟩;have F6:=F5.trans f6)
      | ((with_reducible refine(zkH M6 (by show S.labels+1≤100000;omega)).mono ?_);rintro e w7 ⟨rfl,k7,V7,M7,f7⟩;have F7:=F6.trans f7)
      | ((with_reducible refine(zkH M7 (by show S.labels+1+1≤100000;omega)).mono ?_);rintro e w8 ⟨rfl,k8,V8,M8,f8⟩;have F8:=F7.trans f8))
  | (go_at_call 38;refine Hid.out ?_))
 --SEG
 unfold Hid
 obtain⟨i0,hi0',hz0,hz1,hz2⟩:=info_parts Tryz.info9
 obtain⟨L1,hL1⟩:∃ L1,L1=ba (labW (S.labels+1)):=⟨_,rfl⟩
 obtain⟨L2,hL2⟩:∃ L2,L2=ba (labW (S.labels+1+1)):=⟨_,rfl⟩
 obtain⟨L3,hL3⟩:∃ L3,L3=ba (labW (S.labels+1+1+1)):=⟨_,rfl⟩
 have q1:L1.size≤21:=by rw [hL1];exact Nat.le_trans (zkM _ (by omega)) (by decide)
 have q2:L2.size≤21:=by rw [hL2];exact Nat.le_trans (zkM _ (by omega)) (by decide)
 have q3:L3.size≤21:=by rw [hL3];exact Nat.le_trans (zkM _ (by omega)) (by decide)
 rw [←hL1,←hL2,←hL3]
 replace hL1:Hid (L1=ba (labW (S.labels+1))):=hL1
 replace hL2:Hid (L2=ba (labW (S.labels+1+1))):=hL2
 replace hL3:Hid (L3=ba (labW (S.labels+1+1+1))):=hL3
 obtain⟨T0,hT0⟩:∃ T0:Wst,T0={ S with labels:=S.labels+1+1+1,held:=updH (updH S.held i true) n true }:=⟨_,rfl⟩
 have M:=M8.re hT0.symm
 have F:=F8
 have St:LSt S T0 [] S.counts (updH (updH S.held i true) n true) d (S.labels+1+1+1):=by rw [hT0];exact⟨by simp,rfl,hdp,rfl,rfl,rfl,rfl⟩
 have tn:T0.lines.length≤1900:=by rw [St.lines];simpa using hn
 obtain⟨hx0,hx1,hy0,hy1,hc0,hc1,hfew⟩:=hE
 have ix:i64 x:=⟨by omega,by omega⟩
 have iy:i64 y:=⟨by omega,by omega⟩
 have iz:i64 z:=⟨by omega,by omega⟩
 clear M1 M2 M3 M4 M5 M6 M7 M8 F4 F5 F6 F7 F8 f5 f6 f7 f8 cn zn hg hT0
 refine Hid.out ?_
 unfold Hid
 go_wp2_with(first
  | (go_at_call 38;(with_reducible refine(zbo i hi _).mono ?_);rintro e wr ⟨Ar,rfl,zAr,hAr,hb⟩;replace M:=M.below hb M.base;replace F:=F.trans (.low hb))
  | (go_at_call 36;(with_reducible refine(zfl x ix _).mono ?_);rintro e wr ⟨D,rfl,zD,hD,hb⟩;have hz7:=zfm 7 zD (by decide);replace M:=M.below hb M.base;replace F:=F.trans (.low hb))
  | (go_at_call 62;refine Hid.out ?_))
 unfold Hid
 refine(zbE M (setL i x) _ (zhB hAr hD) (zbU (by decide) (by omega) zD) (by omega)).mono ?_
 rintro e w1 ⟨rfl,k1,V1,Mn,fn⟩
 dsimp only
 replace F:=F.trans fn
 clear fn
 obtain⟨T1,hT1⟩:∃ T1:Wst,T1={ T0 with lines:=T0.lines++[setL i x] }:=⟨_,rfl⟩
 replace M:=Mn.re hT1.symm
 replace tn:T1.lines.length≤1901:=by rw [hT1];simp;omega
 replace St:=(St.add (setL i x)).re hT1.symm
 clear hT1 Mn
 go_wp2_with(first
  | (go_at_call 38;(with_reducible refine(zbo n hn8 _).mono ?_);rintro e wr ⟨Ar,rfl,zAr,hAr,hb⟩;replace M:=M.below hb M.base;replace F:=F.trans (.low hb))
  | (go_at_call 36;(with_reducible refine(zfl y iy _).mono ?_);rintro e wr ⟨D,rfl,zD,hD,hb⟩;have hz7:=zfm 7 zD (by decide);replace M:=M.below hb M.base;replace F:=F.trans (.low hb))
  | (go_at_call 62;refine Hid.out ?_))
 unfold Hid
 refine(zbE M (setL n y) _ (zhB hAr hD) (zbU (by decide) (by omega) zD) (by omega)).mono ?_
 rintro e w2 ⟨rfl,k2,V2,Mn,fn⟩
 dsimp only
 replace F:=F.trans fn
 clear fn
 obtain⟨T2,hT2⟩:∃ T2:Wst,T2={ T1 with lines:=T1.lines++[setL n y] }:=⟨_,rfl⟩
 replace M:=Mn.re hT2.symm
 replace tn:T2.lines.length≤1902:=by rw [hT2];simp;omega
 replace St:=(St.add (setL n y)).re hT2.symm
 clear hT2 Mn
 obtain⟨ao,cap,hv,cl,ho⟩:=M.line1
 have hlm:=zkL (Hid.out2 hL1)
 have lb:=M.blk.lt
 have hbs:=M.base
 have qz:¬9223372036854775807<L1.size+1:=by omega
 go_wp2_with(first
  | (at_builtin;refine wpList_append_lies _ rfl _ _ 67 rfl B 9 i0 (.string ByteArray.empty) 1 16 Tryz.under67 hi0' hz0 hz1 hz2 rfl (by decide) _ _ _ rfl (ho.alloc _) ⟨w2.heap.size,0,none⟩ 1 1 [.string (L1++(⟨#[58]⟩:ByteArray))] rfl rfl (cell_one_new _ _ _) (zdx _) (by decide) (by unfold maxLen;omega) (by omega) (by simp;omega) (w2.heap.size+1) (by simp) ?_))
 intro gb cb w3' hown hgrow hnew _
 obtain⟨Mn,fn,hco,hfo⟩:=M.said (l:=labL (S.labels+1)) (w4:=w3') (by rw [hv];exact(World.grownBy_alloc _ _ _).trans hgrow) (by rw [hv];rcases hnew with e|e;exact .inl e;exact .inr (by omega)) (by rw [List.map_append,List.map_singleton,hlm];exact hown)
 rw [hv] at hco
 replace F:=F.trans fn
 clear fn cl ho hown hgrow hnew hlm
 obtain⟨T3,hT3⟩:∃ T3:Wst,T3={ T2 with lines:=T2.lines++[labL (S.labels+1)] }:=⟨_,rfl⟩
 replace M:=Mn.re hT3.symm
 replace tn:T3.lines.length≤1903:=by rw [hT3];simp;omega
 replace St:=(St.add (labL (S.labels+1))).re hT3.symm
 clear hT3 Mn hv
 go_wp2_with(first
  | (go_at_call 38;first
      | ((with_reducible refine(zbo i hi _).mono ?_);rintro e wr ⟨Ar,rfl,zAr,hAr,hb⟩;replace M:=M.below hb M.base;replace F:=F.trans (.low hb))
      | ((with_reducible refine(zbo n hn8 _).mono ?_);rintro e wr ⟨D,rfl,zD,hD,hb⟩;have hz7:=zfm 9 q2 (by decide);replace M:=M.below hb M.base;replace F:=F.trans (.low hb)))
  | (go_at_call 62;refine Hid.out ?_))
 unfold Hid
 refine(zbE M (zgm i n (S.labels+1+1)) _ (zuP hAr hD (Hid.out2 hL2)) (zrH zAr zD q2) (by omega)).mono ?_
 rintro e w4 ⟨rfl,k4,V4,Mn,fn⟩
 dsimp only
 replace F:=F.trans fn
 clear fn
 obtain⟨T4,hT4⟩:∃ T4:Wst,T4={ T3 with lines:=T3.lines++[zgm i n (S.labels+1+1)] }:=⟨_,rfl⟩
 replace M:=Mn.re hT4.symm
 replace tn:T4.lines.length≤1904:=by rw [hT4];simp;omega
 replace St:=(St.add (zgm i n (S.labels+1+1))).re hT4.symm
 clear hT4 Mn
 go_wp2_with(first
  | fail
  | (go_at_call 62;refine Hid.out ?_))
 unfold Hid
 refine(zbE M (zdt (S.labels+1+1+1)) _ (zmI (Hid.out2 hL3)) (zgo (by decide) q3) (by omega)).mono ?_
 rintro e w5 ⟨rfl,k5,V5,Mn,fn⟩
 dsimp only
 replace F:=F.trans fn
 clear fn
 obtain⟨T5,hT5⟩:∃ T5:Wst,T5={ T4 with lines:=T4.lines++[zdt (S.labels+1+1+1)] }:=⟨_,rfl⟩
 replace M:=Mn.re hT5.symm
 replace tn:T5.lines.length≤1905:=by rw [hT5];simp;omega
 replace St:=(St.add (zdt (S.labels+1+1+1))).re hT5.symm
 clear hT5 Mn
 obtain⟨ao,cap,hv,cl,ho⟩:=M.line1
 have hlm:=zkL (Hid.out2 hL2)
 have lb:=M.blk.lt
 have hbs:=M.base
 have qz:¬9223372036854775807<L2.size+1:=by omega
 go_wp2_with(first
  | (at_builtin;refine wpList_append_lies _ rfl _ _ 67 rfl B 9 i0 (.string ByteArray.empty) 1 16 Tryz.under67 hi0' hz0 hz1 hz2 rfl (by decide) _ _ _ rfl (ho.alloc _) ⟨w5.heap.size,0,none⟩ 1 1 [.string (L2++(⟨#[58]⟩:ByteArray))] rfl rfl (cell_one_new _ _ _) (zdx _) (by decide) (by unfold maxLen;omega) (by omega) (by simp;omega) (w5.heap.size+1) (by simp) ?_))
 intro gb cb w6' hown hgrow hnew _
 obtain⟨Mn,fn,hco,hfo⟩:=M.said (l:=labL (S.labels+1+1)) (w4:=w6') (by rw [hv];exact(World.grownBy_alloc _ _ _).trans hgrow) (by rw [hv];rcases hnew with e|e;exact .inl e;exact .inr (by omega)) (by rw [List.map_append,List.map_singleton,hlm];exact hown)
 rw [hv] at hco
 replace F:=F.trans fn
 clear fn cl ho hown hgrow hnew hlm
 obtain⟨T6,hT6⟩:∃ T6:Wst,T6={ T5 with lines:=T5.lines++[labL (S.labels+1+1)] }:=⟨_,rfl⟩
 replace M:=Mn.re hT6.symm
 replace tn:T6.lines.length≤1906:=by rw [hT6];simp;omega
 replace St:=(St.add (labL (S.labels+1+1))).re hT6.symm
 clear hT6 Mn hv
 obtain⟨As,hAs⟩:∃ As,As=[setL i x,setL n y,labL (S.labels+1),zgm i n (S.labels+1+1),zdt (S.labels+1+1+1),labL (S.labels+1+1)]:=⟨_,rfl⟩
 replace St:LSt S T6 As S.counts (updH (updH S.held i true) n true) d (S.labels+1+1+1):=by rw [hAs];exact St
 replace hAs:Hid (As=[setL i x,setL n y,labL (S.labels+1),zgm i n (S.labels+1+1),zdt (S.labels+1+1+1),labL (S.labels+1+1)]):=hAs
 have hcl:T6.counts=S.counts:=St.counts
 obtain⟨ao1,cap1,hv1,cl1,ho1,hcc1,hcm1⟩:=M.cnt1 hcl
 clear hcl
 have hcap:S.counts.length≤9223372036854775806:=by
  have:=hcnt
  omega
 obtain⟨j0,hj0,hy0',hy1',hy2'⟩:=info_parts Tryz.info3
 obtain⟨dd,zd⟩:=M.deepAt St.deep
 have lb:=M.blk.lt
 have hbs:=M.base
 by_cases hR:0≤x∧y≤16
 focus
  obtain⟨hR1,hR2⟩:=hR
  go_wp2_with(first
   | (at_builtin;refine Hid.out ?_))
  unfold Hid
  have hsz:(w6'.setCell ⟨b,1,none⟩ (.slice (some ⟨gb,0,none⟩) (T5.lines.length+1) cb)).heap.size=w6'.heap.size:=World.size_setCell _ _ _
  generalize w6'.setCell ⟨b,1,none⟩ (.slice (some ⟨gb,0,none⟩) (T5.lines.length+1) cb)=w6 at M F ho1 lb hbs dd zd cl1 hsz ⊢
  refine wpList_append_lies _ rfl _ _ 59 rfl B 3 j0 (.int .i64 0) 1 8 Tryz.under59 hj0 hy0' hy1' hy2' rfl (by decide) _ _ _ rfl (ho1.alloc _) ⟨w6'.heap.size,0,none⟩ 1 1 [.int .i64 (i:Int)] rfl rfl (by rw [←hsz];exact zlm _ _) (by simp [Value.oneCell']) (by decide) (by unfold maxLen;omega) (by omega) (by simp;omega) (w6.heap.size+1) (by simp) ?_
  intro gd cd w7' hown hgrow hnew _
  obtain⟨Mn,fn,hco,hfo⟩:=M.counted (l:=i) (w4:=w7') hi (by rw [hv1];exact(World.grownBy_alloc _ _ _).trans hgrow) (by rw [hv1];rcases hnew with e|e;exact .inl e;exact .inr (by omega)) (by rw [St.counts,List.map_append,List.map_singleton];exact hown)
  rw [hv1] at hco
  rw [St.counts] at Mn fn
  replace F:=F.trans fn
  obtain⟨T7,hT7⟩:∃ T7:Wst,T7={ T6 with counts:=S.counts++[i] }:=⟨_,rfl⟩
  replace M:=Mn.re hT7.symm
  obtain⟨R,hRR⟩:∃ R,R=[i]:=⟨_,rfl⟩
  rw [←hRR] at hT7
  have hR1:R.length≤1:=by rw [hRR];simp
  replace St:LSt S T7 As (S.counts++R) (updH (updH S.held i true) n true) d (S.labels+1+1+1):=by rw [hT7];exact⟨St.lines,rfl,St.deep,St.nk,St.held,St.labels,St.most⟩
  replace tn:T7.lines.length≤1906:=by rw [hT7];exact tn
  clear hT7 hRR Mn fn cl1 ho1 hv1 hown hgrow hnew dd zd
  obtain⟨dd,zd⟩:=M.deepAt St.deep
  go_wp2_with(first
   | (go_at_call 60;refine Hid.out ?_))
 rotate_left
 by_cases hx':0≤x
 focus
  have hy':¬y≤16:=fun e=>hR ⟨hx',e⟩
  go_wp2_with(first
   | (go_at_call 60;refine Hid.out ?_))
  obtain⟨T7,hT7⟩:∃ T7:Wst,T7=T6:=⟨_,rfl⟩
  replace M:=M.re hT7.symm
  obtain⟨R,hRR⟩:∃ R:List Nat,R=[]:=⟨_,rfl⟩
  have hR1:R.length≤1:=by rw [hRR];simp
  replace St:LSt S T7 As (S.counts++R) (updH (updH S.held i true) n true) d (S.labels+1+1+1):=by rw [hT7,hRR,List.append_nil];exact St
  replace tn:T7.lines.length≤1906:=by rw [hT7];exact tn
  clear hT7 hRR
 rotate_left
 focus
  go_wp2_with(first
   | (go_at_call 60;refine Hid.out ?_))
  obtain⟨T7,hT7⟩:∃ T7:Wst,T7=T6:=⟨_,rfl⟩
  replace M:=M.re hT7.symm
  obtain⟨R,hRR⟩:∃ R:List Nat,R=[]:=⟨_,rfl⟩
  have hR1:R.length≤1:=by rw [hRR];simp
  replace St:LSt S T7 As (S.counts++R) (updH (updH S.held i true) n true) d (S.labels+1+1+1):=by rw [hT7,hRR,List.append_nil];exact St
  replace tn:T7.lines.length≤1906:=by rw [hT7];exact tn
  clear hT7 hRR
 all_goals
  unfold Hid
  obtain⟨T8,hT8⟩:∃ T8:Wst,T8={ T7 with deep:=d+1 }:=⟨_,rfl⟩
  have M8:=(zp7 M (d+1)).re hT8.symm
  have F8:=F.trans (M.put_fr 20 (.int .i64 ((d+1:Nat):Int)) (by decide) (by decide))
  have S8:LSt S T8 As (S.counts++R) (updH (updH S.held i true) n true) (d+1) (S.labels+1+1+1):=by rw [hT8];exact⟨St.lines,St.counts,rfl,St.nk,St.held,St.labels,St.most⟩
  have t8:T8.lines.length≤1906:=by rw [hT8];exact tn
  rw [show((d+1:Nat):Int)=(d:Int)+1 by omega] at M8 F8
  clear hT8 M F
  refine(IH B _ b px cv code T8 _ _ M8 S8.deep (by rw [S8.held];omega) (by rw [S8.lines,List.length_append,Hid.out2 hAs];exact hn') (by rw [S8.labels];omega) (by rw [S8.nk];exact hnk) (by rw [S8.counts,List.length_append];omega)).mono ?_
  rintro e w9 ⟨⟨wt,rfl,hwt⟩,A,cc,hPc,hAl,hcc,k9,V9,Mn,fn⟩
  dsimp only
  rw [S8.nk,S8.labels] at hPc
  rw [S8.labels] at hcc
  obtain⟨T9,hT9⟩:∃ T9:Wst,T9={ T8 with lines:=T8.lines++A,labels:=cc }:=⟨_,rfl⟩
  have M:=Mn.re hT9.symm
  have F:=F8.trans fn
  have S9:LSt S T9 (As++A) (S.counts++R) (updH (updH S.held i true) n true) (d+1) cc:=by rw [hT9];exact⟨(congrArg (·++A) S8.lines).trans (List.append_assoc _ _ _),S8.counts,S8.deep,S8.nk,S8.held,rfl,S8.most⟩
  have hld:zdQ (d+1)≤308:=zuQ (by omega)
  have hcd:zjh (d+1)≤60:=zxe (by omega)
  have t9:T9.lines.length≤2214:=by rw [hT9];simp;omega
  clear hT9 Mn fn M8 F8 S8 t8
  obtain⟨dd,zd⟩:=M.deepAt S9.deep
  rw [show((d+1:Nat):Int)=(d:Int)+1 by omega] at dd
  obtain⟨T10,hT10⟩:∃ T10:Wst,T10={ T9 with deep:=d }:=⟨_,rfl⟩
  have M10:=(zp7 M d).re hT10.symm
  have F10:=F.trans (M.put_fr 20 (.int .i64 (d:Int)) (by decide) (by decide))
  have S10:LSt S T10 (As++A) (S.counts++R) (updH (updH S.held i true) n true) d cc:=by rw [hT10];exact⟨S9.lines,S9.counts,rfl,S9.nk,S9.held,S9.labels,S9.most⟩
  have t10:T10.lines.length≤2214:=by rw [hT10];exact t9
  obtain⟨ao2,cap2,hv2,cl2,ho2,hle2,hcm2⟩:=M10.cnt1 S10.counts
  rw [List.length_append] at hle2
  have z11:=M10.blk.fz 11
  clear hT10 M S9 t9 F
  go_wp2_with(first
   | (go_at_call 38;refine Hid.out ?_))
  unfold Hid
  obtain⟨Mc,fc⟩:=M10.cut (ao:=ao2) (cap:=cap2) (by rw [S10.counts];exact hv2) S.counts R S10.counts
  obtain⟨T11,hT11⟩:∃ T11:Wst,T11={ T10 with counts:=S.counts }:=⟨_,rfl⟩
  have M:=Mc.re hT11.symm
  have F:=F10.trans fc
  have St:LSt S T11 (As++A) S.counts (updH (updH S.held i true) n true) d cc:=by rw [hT11];exact⟨S10.lines,rfl,S10.deep,S10.nk,S10.held,S10.labels,S10.most⟩
  have tn:T11.lines.length≤2214:=by rw [hT11];exact t10
  clear hT11 Mc fc M10 F10 S10 t10 cl2 ho2 hv2 z11 dd zd
  refine Hid.out ?_
  unfold Hid
  go_wp2_with(first
   | (go_at_call 38;(with_reducible refine(zbo i hi _).mono ?_);rintro e wr ⟨Ar,rfl,zAr,hAr,hb⟩;replace M:=M.below hb M.base;replace F:=F.trans (.low hb))
   | (go_at_call 36;(with_reducible refine(zfl z iz _).mono ?_);rintro e wr ⟨D,rfl,zD,hD,hb⟩;have hz7:=zfm 7 zD (by decide);replace M:=M.below hb M.base;replace F:=F.trans (.low hb))
   | (go_at_call 62;refine Hid.out ?_))
  unfold Hid
  refine(zbE M (incL i z) _ (zwY hAr hD) (zbU (by decide) (by omega) zD) (by omega)).mono ?_
  rintro e w12 ⟨rfl,k12,V12,Mn,fn⟩
  dsimp only
  replace F:=F.trans fn
  clear fn
  obtain⟨T12,hT12⟩:∃ T12:Wst,T12={ T11 with lines:=T11.lines++[incL i z] }:=⟨_,rfl⟩
  replace M:=Mn.re hT12.symm
  replace tn:T12.lines.length≤2215:=by rw [hT12];simp;omega
  replace St:=(St.add (incL i z)).re hT12.symm
  clear hT12 Mn
  go_wp2_with(first
   | fail
   | (go_at_call 62;refine Hid.out ?_))
  unfold Hid
  refine(zbE M (zdt (S.labels+1)) _ (zmI (Hid.out2 hL1)) (zgo (by decide) q1) (by omega)).mono ?_
  rintro e w13 ⟨rfl,k13,V13,Mn,fn⟩
  dsimp only
  replace F:=F.trans fn
  clear fn
  obtain⟨T13,hT13⟩:∃ T13:Wst,T13={ T12 with lines:=T12.lines++[zdt (S.labels+1)] }:=⟨_,rfl⟩
  replace M:=Mn.re hT13.symm
  replace tn:T13.lines.length≤2216:=by rw [hT13];simp;omega
  replace St:=(St.add (zdt (S.labels+1))).re hT13.symm
  clear hT13 Mn
  obtain⟨ao,cap,hv,cl,ho⟩:=M.line1
  have hlm:=zkL (Hid.out2 hL3)
  have lb:=M.blk.lt
  have hbs:=M.base
  have qz:¬9223372036854775807<L3.size+1:=by omega
  go_wp2_with(first
   | (at_builtin;refine wpList_append_lies _ rfl _ _ 67 rfl B 9 i0 (.string ByteArray.empty) 1 16 Tryz.under67 hi0' hz0 hz1 hz2 rfl (by decide) _ _ _ rfl (ho.alloc _) ⟨w13.heap.size,0,none⟩ 1 1 [.string (L3++(⟨#[58]⟩:ByteArray))] rfl rfl (cell_one_new _ _ _) (zdx _) (by decide) (by unfold maxLen;omega) (by omega) (by simp;omega) (w13.heap.size+1) (by simp) ?_))
  intro gb cb w14' hown hgrow hnew _
  obtain⟨Mn,fn,hco,hfo⟩:=M.said (l:=labL (S.labels+1+1+1)) (w4:=w14') (by rw [hv];exact(World.grownBy_alloc _ _ _).trans hgrow) (by rw [hv];rcases hnew with e|e;exact .inl e;exact .inr (by omega)) (by rw [List.map_append,List.map_singleton,hlm];exact hown)
  rw [hv] at hco
  replace F:=F.trans fn
  clear fn cl ho hown hgrow hnew hlm
  obtain⟨T14,hT14⟩:∃ T14:Wst,T14={ T13 with lines:=T13.lines++[labL (S.labels+1+1+1)] }:=⟨_,rfl⟩
  replace M:=Mn.re hT14.symm
  replace tn:T14.lines.length≤2217:=by rw [hT14];simp;omega
  replace St:=(St.add (labL (S.labels+1+1+1))).re hT14.symm
  clear hT14 Mn hv
  have ci:=M.heldAt i hi
  have zi:=M.blk.fz (3+i)
  have M15:=zhA M i hi false
  have cn:=M15.heldAt n hn8
  have zn:=M15.blk.fz (3+n)
  have F15:=F.trans (M.put_fr (3+i) (.bool false) (by omega) (by omega))
  have M16:=(zhA M15 n hn8 false).re (St.done hdp hhi hhn)
  have F16:=F15.trans (M15.put_fr (3+n) (.bool false) (by omega) (by omega))
  obtain⟨t,ht,htm⟩:=zxf x y z (((w14'.setCell ⟨b,1,none⟩ (.slice (some ⟨gb,0,none⟩) (T13.lines.length+1) cb)).setCell ⟨b,3+i,none⟩ (.bool false)).setCell ⟨b,3+n,none⟩ (.bool false)) ⟨hx0,hx1,hy0,hy1,hc0,hc1,hfew⟩
  have p0:0≤((t:Int)+1)*((wt:Int)+4):=Int.mul_nonneg (by omega) (by omega)
  have p1:((t:Int)+1)*((wt:Int)+4)≤2501*1073741828:=Int.mul_le_mul (by omega) (by omega) (by omega) (by omega)
  go_wp2_with(first
   | (go_at_call 40;(with_reducible refine htm.mono ?_);rintro e wz ⟨rfl,hwz⟩))
  subst hwz
  go_ret
  refine⟨⟨4+(t+1)*(wt+4),?_,?_⟩,As++A++[incL i z]++[zdt (S.labels+1)]++[labL (S.labels+1+1+1)],cc,?_,?_,?_,_,_,M16,F16⟩
  ·show Ending.returned (.int .i64 (4+((t:Int)+1)*((wt:Int)+4)))=_
   simp
  ·have:=Nat.mul_le_mul (show t+1≤2501 by omega) (show wt+4≤1073741828 by omega)
   omega
  ·have h:=Pc.loop (c:=S.labels) hi hn8 (zeG hi ix) (zeG hn8 iy) (zm7 hi iz) hPc
   rw [Hid.out2 hAs]
   simpa [List.append_assoc] using h
  ·rw [Hid.out2 hAs]
   simp
   omega
  ·omega
end
section
open Go.RowKit Sp
attribute [local go_sem ↓] Go.wp_at_zero Go.wp_at_succ
def zjj(d most lab:Nat)(P:Nat→Prop)(f:Nat):Prop:=∀(B:Nat) (w:World) (b px:Nat) (cv:Value) (code:List Int) (S:Wst) (k:Nat) (V:Nat→Value),WrM B w b px cv code S k V→S.deep=d→zjr S.held≤2*d→S.lines.length≤zhl d+zdQ d→S.labels≤zmH d+zjh d→S.nk≤100→S.counts.length≤d →
 Calls Tryz.prog f #[.pointer (some ⟨b,0,none⟩)] w fun e w'=>(∃ n:Nat,e=.returned (.int .i64 (n:Int))∧P n)∧PcPost B w b px cv code V S most lab w'
theorem PcPost.mono{B:Nat}{w:World}{b px:Nat}{cv:Value}{code:List Int}{V:Nat→Value}{S:Wst}{m1 m2 l1 l2:Nat}{w':World}(h:PcPost B w b px cv code V S m1 l1 w')(hm:m1≤m2)(hl:l1≤l2):PcPost B w b px cv code V S m2 l2 w':=by
 obtain⟨A,c,h1,h2,h3,h4⟩:=h
 exact⟨A,c,h1,by omega,by omega,h4⟩
theorem zfc(d:Nat):zdQ d≤1268:=by
 unfold zdQ
 split
 ·decide
 ·split
  ·decide
  ·split <;> decide
theorem zov{d:Nat}(h:d<3):zhl (d+1)=zhl d+zdQ d+6:=by
 have:d=0∨d=1∨d=2:=by omega
 rcases this with rfl|rfl|rfl <;> rfl
theorem zrI{d:Nat}(h:d<3):zmH (d+1)=zmH d+zjh d+3:=by
 have:d=0∨d=1∨d=2:=by omega
 rcases this with rfl|rfl|rfl <;> rfl
def zen(d:Nat):Nat:=if d<3 then 9+zdQ (d+1) else 2
def zdd(d:Nat):Nat:=if d<3 then 3+zjh (d+1) else 0
theorem zow{d:Nat}(h:d≤3):zdQ d=4*zen d:=by
 have:d=0∨d=1∨d=2∨d=3:=by omega
 rcases this with rfl|rfl|rfl|rfl <;> rfl
theorem zrJ{d:Nat}(h:d≤3):zjh d=4*zdd d:=by
 have:d=0∨d=1∨d=2∨d=3:=by omega
 rcases this with rfl|rfl|rfl|rfl <;> rfl
theorem zrK(d:Nat):2≤zen d:=by
 unfold zen
 split <;> omega
theorem zox(d:Nat)(hd:d≤3):zjj d 2 0 (fun n=>n≤1000000000000000) 94:=fun B w b px cv code S k V M h1 h2 h3 h4 h5 h6=>by
 obtain⟨rf,hrf,hf⟩:=zeH (h:=S.held) (by omega)
 refine(zkJ M rf hrf hf (by have:=zeI d;have:=zfc d;omega)).mono ?_
 rintro e w' ⟨rfl,l,hl,hp⟩
 exact⟨⟨1,rfl,by omega⟩,zuD hl hp⟩
theorem zoy(d:Nat)(hd:d≤3):zjj d 2 0 (fun n=>n≤1000000000000000) 95:=fun B w b px cv code S k V M h1 h2 h3 h4 h5 h6=>by
 obtain⟨rf,hrf,hf⟩:=zeH (h:=S.held) (by omega)
 refine(zwZ M rf hrf hf (by have:=zeI d;have:=zfc d;omega)).mono ?_
 rintro e w' ⟨⟨n,rfl,hn⟩,hp⟩
 exact⟨⟨n,rfl,by omega⟩,hp⟩
theorem zmJ(d:Nat)(hd:d≤3):zjj d 2 0 (fun n=>n≤1000000000000000) 61:=fun B w b px cv code S k V M h1 h2 h3 h4 h5 h6=>by
 obtain⟨rf,hrf,hf⟩:=zeH (h:=S.held) (by omega)
 refine(zmF M rf hrf hf (by have:=zeI d;have:=zfc d;omega) (by omega) (fun W k2 V2 M2=>zkJ M2 rf hrf hf (by have:=zeI d;have:=zfc d;omega))).mono ?_
 rintro e w' ⟨⟨n,rfl,hn⟩,hp⟩
 exact⟨⟨n,rfl,by omega⟩,hp⟩
theorem zgP(d:Nat)(hd:d<3)(IH:zji (d+1)):zjj d (9+zdQ (d+1)) (3+zjh (d+1)) (fun n=>n≤1000000000000000) 93:=fun B w b px cv code S k V M h1 h2 h3 h4 h5 h6=>by
 refine(zyO d hd IH M h1 h2 (by rw [zov hd];omega) (by rw [zrI hd];omega) h5 h6).mono ?_
 rintro e w' ⟨⟨n,rfl,hn⟩,hp⟩
 exact⟨⟨n,rfl,by omega⟩,hp⟩
structure BSt(S T:Wst)(A:List Ln):Prop where
 eq:T={ S with lines:=S.lines++A,labels:=T.labels }
 pc:Pc S.nk S.labels T.labels A
theorem BSt.start(S:Wst):BSt S S []:=⟨by simp,.nil _⟩
theorem BSt.add{S T:Wst}{A:List Ln}(h:BSt S T A){A2:List Ln}{c:Nat}(hp:Pc T.nk T.labels c A2):BSt S { T with lines:=T.lines++A2,labels:=c } (A++A2):=by
 obtain⟨h1,h2⟩:=h
 have hk:T.nk=S.nk:=by rw [h1]
 have hl:T.lines=S.lines++A:=by rw [h1]
 refine⟨?_,?_⟩
 ·have:{ T with lines:=T.lines++A2,labels:=c }=({ ({ S with lines:=S.lines++A,labels:=T.labels }:Wst) with lines:=T.lines++A2,labels:=c }:Wst):=by rw [←h1]
  rw [this,hl,List.append_assoc]
 ·rw [hk] at hp
  exact .app h2 hp
theorem WrM.c1{B:Nat}{w:World}{b px:Nat}{cv:Value}{code:List Int}{S:Wst}{k:Nat}{V:Nat→Value}(h:WrM B w b px cv code S k V):w.cell? ⟨b,21,none⟩=some (.int .i64 S.most):=by rw [←h.v21];exact h.blk.cell 21 (by omega)
end
section
open Go.RowKit Sp Go.Lib
theorem zt5{w:World}{S o H cap m p0 pl:Nat}(hc:w.cell? ⟨S,o,none⟩=some (.slice (some ⟨H,0,none⟩) (m+1) cap))(hz:w.frozen? ⟨S,o,none⟩=false)(hSH:¬S=H)(hm:m≤100000)(hcap:m+1≤cap)(_hcm:cap≤maxLen)(c0:w.cell? ⟨H,0,none⟩=some (.pointer (some ⟨p0,0,none⟩)))(cl:w.cell? ⟨H,m,none⟩=some (.pointer (some ⟨pl,0,none⟩)))(fz:∀ j,w.frozen? ⟨H,j,none⟩=false)(_hS:S<w.heap.size)
  (Q:World→Prop)
  (hsink:∀ W,Below w.heap.size (((w.setCell ⟨H,0,none⟩ (.pointer (some ⟨pl,0,none⟩))).setCell ⟨H,m,none⟩ (.pointer none)).setCell ⟨S,o,none⟩ (.slice (some ⟨H,0,none⟩) m cap)) W→Calls Tryz.prog 154 #[.slice (some ⟨H,0,none⟩) m cap,.int .i64 0] W fun e w'=>e=.returned (.tuple #[])∧Q w') :
  Calls Tryz.prog 139 #[.pointer (some ⟨S,o,none⟩)] w fun e w'=>e=.returned (.pointer (some ⟨p0,0,none⟩))∧Q w':=by
 unfold maxLen at _hcm
 have f0:=fz 0
 have fm:=fz m
 have hHS:¬H=S:=fun e=>hSH e.symm
 have m0:(0:Int)≤(m:Int):=by omega
 have l0:(w.setCell ⟨H,0,none⟩ (.pointer (some ⟨pl,0,none⟩))).cell? ⟨H,m,none⟩=some (.pointer (some ⟨pl,0,none⟩)):=by
  rw [zaq w H 0 m _ _ c0]
  split
  ·rfl
  ·exact cl
 have l1:(w.setCell ⟨H,0,none⟩ (.pointer (some ⟨pl,0,none⟩))).frozen? ⟨H,m,none⟩=false:=zcL.trans fm
 have hc1:∀ j,j<1→((w.setCell ⟨H,0,none⟩ (.pointer (some ⟨pl,0,none⟩))).drew.cell? ⟨H,m+j,none⟩).isSome=true:=fun j hj=>by
  have e:j=0:=by omega
  rw [e,Nat.add_zero]
  show((w.setCell ⟨H,0,none⟩ (.pointer (some ⟨pl,0,none⟩))).cell? ⟨H,m,none⟩).isSome=true
  rw [l0]
  rfl
 have hf1:∀ j,j<1→(w.setCell ⟨H,0,none⟩ (.pointer (some ⟨pl,0,none⟩))).drew.frozen? ⟨H,m+j,none⟩=false:=fun j hj=>by
  have e:j=0:=by omega
  rw [e,Nat.add_zero]
  exact l1
 have hzv:∀ w,(zeroValue 197).run Tryz.prog w=.ok (.pointer none) w:=fun w=>by kernel_rfl
 have hclr:(Builtin.clear_ #[151] 0 #[.slice (some ⟨H,m,none⟩) 1 (cap-m)]).run Tryz.prog (w.setCell ⟨H,0,none⟩ (.pointer (some ⟨pl,0,none⟩))).drew=.ok (.tuple #[]) ((w.setCell ⟨H,0,none⟩ (.pointer (some ⟨pl,0,none⟩))).drew.setCell ⟨H,m,none⟩ (.pointer none)) :=
  run_clear_slice _ 151 197 0 (.pointer none) Tryz.under151 hzv rfl rfl H m 1 (cap-m) (by omega) hc1 hf1
 clear hc1 hf1 hzv
 go_enter Tryz.func139,Tryz.ntmps139
 go_wp2
 go_region_held3 (fun W=>W.cell? ⟨S,o,none⟩=some (.slice (some ⟨H,0,none⟩) (m+1) cap))
  (first|exact hc|go_keep)
  (fail)
 all_goals go_wp2_with(go_at_call 154;(with_reducible refine(hsink _ (Below.refl _ _).drew).mono ?_);rintro e wx ⟨rfl,hQ⟩)
 all_goals go_ret
 all_goals exact⟨rfl,hQ⟩
def zgA(xs:List Wy)(m:Nat):List Wy:=(xs.set 0 (xs.getD m wy0)).take m
theorem zge{xs:List Wy}{m:Nat}(h:xs.length=m+1):(zgA xs m).length=m:=by simp [zgA,h]
theorem zps{xs:List Wy}{m i:Nat}(h:xs.length=m+1)(hi:i<m):(zgA xs m)[i]?=some (if i=0 then xs.getD m wy0 else xs.getD i wy0):=by
 unfold zgA
 rw [List.getElem?_take_of_lt hi]
 by_cases e:i=0
 ·subst e;rw [if_pos rfl,List.getElem?_set_self (by omega)]
 ·rw [if_neg e,List.getElem?_set_ne (by omega),List.getElem?_eq_getElem (by omega)]
  simp [List.getD,(by omega:i<xs.length)]
theorem zgB{xs:List Wy}{m:Nat}(h:xs.length=m+1):(xs.getD 0 wy0 :: zgA xs m).Perm xs:=by
 cases xs with
 | nil=>simp at h
 | cons x t =>
  have ht:t.length=m:=by simpa using h
  cases m with
  | zero =>
   have:t=[]:=List.eq_nil_of_length_eq_zero ht
   subst this
   simp [zgA]
  | succ m =>
   have hne:t≠[]:=by intro e;rw [e] at ht;simp at ht
   have e1:(x :: t).getD (m+1) wy0=t.getLast hne:=by
    rw [List.getLast_eq_getElem]
    simp [List.getD,ht]
   have e2:zgA (x :: t) (m+1)=t.getLast hne :: t.dropLast:=by
    unfold zgA
    rw [e1,List.set_cons_zero,List.take_succ_cons,List.dropLast_eq_take,ht]
    rfl
   rw [e2]
   show(x :: t.getLast hne :: t.dropLast).Perm (x :: t)
   refine List.Perm.cons x ?_
   have e3:t.dropLast++[t.getLast hne]=t:=List.dropLast_concat_getLast hne
   refine List.Perm.trans (List.perm_append_comm (l₁:=[t.getLast hne]) (l₂:=t.dropLast)) ?_
   rw [e3]
theorem zma{xs:List Wy}{m:Nat}(h:xs.length=m+1):∀ x∈zgA xs m,x∈xs:=fun _x hx=>(zgB h).mem_iff.1 (List.mem_cons_of_mem _ hx)
end
section
open Go.RowKit Sp
theorem hid0{p:Prop}(h:p):Hid p:=h
attribute [local go_sem ↓] Go.wp_at_zero Go.wp_at_succ
theorem zkN(d:Nat)(hd:d≤3)(hlo:d<3→zjj d (zen d) (zdd d) (fun n=>n≤1000000000000000) 93):zji d:=by
 intro B w b px cv code S k V M0 hdp hh hn hlb hnk hct
 have hpl:=zox d hd
 have htc:=zoy d hd
 have hcl:=zmJ d hd
 have F0:=Fr.refl b px w V
 have c0:=M0.cx
 have p2:=zrK d
 have l4:=zow hd
 have b4:=zrJ hd
 go_enter Tryz.func60,Tryz.ntmps60
 go_wp2_with(first
  | (go_at_call 41;(with_reducible refine(zax M0 4 (by omega)).mono ?_);rintro e w1 ⟨t,rfl,ht,k1,V1,M1,f1⟩;refine Hid.out ?_))
 unfold Hid
 go_wp2_with fail
 have F1:=F0.trans f1
 clear c0 F0 f1 M0
 go_loopw [3,4] (fun tw tk wr=>∃(n r:Nat) (T:Wst) (A:List Ln) (k':Nat) (V':Nat→Value),tw=.int .i64 (n:Int)∧n≤1073741824∧tk=.int .i64 (r:Int)∧r≤4∧BSt S T A∧A.length≤(4-r)*zen d∧T.labels≤S.labels+(4-r)*zdd d∧WrM B wr b px cv code T k' V'∧Fr b px w V wr V') (fun _ tk _=>(intOf tk).toNat)
 case atStart=>exact⟨0,1+t,S,[],k1,V1,rfl,by omega,by go_num,by omega,BSt.start S,by simp,by omega,M1,F1⟩
 case round =>
  obtain⟨n,r,T,A,k2,V2,rfl,hn2,rfl,hr,hB,hA,hL,M,F⟩:=hrel
  clear M1 F1
  have cl:=M.line1
  obtain⟨ao,cap,hv,cl,_⟩:=cl
  have c21:=M.c1
  by_cases hr0:r=0
  ·subst hr0
   go_wp2_with fail
   go_quiet(fail)
   go_wp2
   go_ret
   refine⟨⟨n,rfl,hn2⟩,A,T.labels,hB.pc,by rw [l4];omega,by rw [b4];omega,k2,V2,(M.drewN _).re hB.eq,F.trans (Fr.low (zbD _ _ _))⟩
  ·have hrp:(0:Int)<(r:Int):=by omega
   have hrn:0<r:=by omega
   have hrd:decide (0<r)=true:=by simpa using hrn
   have hrd2:decide ((0:Int)<(r:Int))=true:=by simpa using hrn
   by_cases hmo:(T.lines.length:Int)<T.most
   ·go_wp2_with fail
    go_quiet(fail)
    have M3:=M.drewN nq
    have F3:=F.trans (Fr.low (zbD _ nq _))
    have c3:=M3.cx
    generalize wr.drewN nq=w3 at M3 F3 c3 ⊢
    have q1:(4-r)*zen d≤4*zen d:=Nat.mul_le_mul_right _ (by omega)
    have q2:(4-r)*zdd d≤4*zdd d:=Nat.mul_le_mul_right _ (by omega)
    have q3:(4-(r-1))*zen d=(4-r)*zen d+zen d:=by rw [show 4-(r-1)=4-r+1 by omega,Nat.add_mul,Nat.one_mul]
    have q4:(4-(r-1))*zdd d=(4-r)*zdd d+zdd d:=by rw [show 4-(r-1)=4-r+1 by omega,Nat.add_mul,Nat.one_mul]
    have e1:T.deep=d:=by rw [hB.eq];exact hdp
    have e2:zjr T.held≤2*d:=by rw [hB.eq];exact hh
    have e3:T.lines.length≤zhl d+zdQ d:=by rw [hB.eq];show(S.lines++A).length≤_;rw [List.length_append,l4];omega
    have e4:T.labels≤zmH d+zjh d:=by rw [b4];omega
    have e5:T.nk≤100:=by rw [hB.eq];exact hnk
    have e6:T.counts.length≤d:=by rw [hB.eq];exact hct
    clear cl c21 M F hv hmo
    go_wp2_with(first
     | (go_at_call 41;(with_reducible refine(zax M3 6 (by omega)).mono ?_);rintro e w4 ⟨s,rfl,hs,k4,V4,M4,f4⟩;have F4:=F3.trans f4;refine Hid.out ?_))
    unfold Hid
    rename_i K3 hK3 K2 hK2 K1 hK1 K0 hK0
    have join:∀(x11 x12 x13 x14 x15 x16 x17 x18 x19 x20 x21 x22 x23 x24 x25 x26 x27 x28 x29 x30 x31 x32 x33 x34 x35 x36 x37 x38 x39 x40 x41 x42 x43 x44 x45 x46 x47 x48 x49 x50 x51 x52 x53 x54 x55 x56 x57 x58 x59 x60 x61 x62 x63 x64 x65 x66 x67 x68 x69 x70 x71 x72 x73 x74 x75 x76 x77 x78 x79 x80 x81 x82 x83:Value) (m:Nat) (W:World) (A2:List Ln) (c k5:Nat) (V5:Nat→Value),m≤1000000000000000→Pc T.nk T.labels c A2→A2.length≤zen d→c≤T.labels+zdd d→WrM B W b px cv code { T with lines:=T.lines++A2,labels:=c } k5 V5→Fr b px w V W V5→K2 ⟨List.toArray (.pointer (some ⟨b,0,none⟩) :: undef :: .int .i64 0 :: .int .i64 ((n:Int)+(m:Int)) :: .int .i64 (r:Int) :: .pointer (some ⟨b,0,none⟩) :: .pointer (some ⟨b,0,none⟩) :: .pointer (some ⟨b,0,none⟩) :: .pointer (some ⟨px,0,none⟩) :: .int .i64 (t:Int) :: .int .i64 (1+(t:Int)) :: x11 :: x12 :: x13 :: x14 :: x15 :: x16 :: x17 :: x18 :: x19 :: x20 :: x21 :: x22 :: x23 :: x24 :: x25 :: x26 :: x27 :: x28 :: x29 :: x30 :: x31 :: x32 :: x33 :: x34 :: x35 :: x36 :: x37 :: x38 :: x39 :: x40 :: x41 :: x42 :: x43 :: x44 :: x45 :: x46 :: x47 :: x48 :: x49 :: x50 :: x51 :: x52 :: x53 :: x54 :: x55 :: x56 :: x57 :: x58 :: x59 :: x60 :: x61 :: x62 :: x63 :: x64 :: x65 :: x66 :: x67 :: x68 :: x69 :: x70 :: x71 :: x72 :: x73 :: x74 :: x75 :: x76 :: x77 :: x78 :: x79 :: x80 :: x81 :: x82 :: x83 :: undef :: []),[]⟩ W:=by
     intro x11 x12 x13 x14 x15 x16 x17 x18 x19 x20 x21 x22 x23 x24 x25 x26 x27 x28 x29 x30 x31 x32 x33 x34 x35 x36 x37 x38 x39 x40 x41 x42 x43 x44 x45 x46 x47 x48 x49 x50 x51 x52 x53 x54 x55 x56 x57 x58 x59 x60 x61 x62 x63 x64 x65 x66 x67 x68 x69 x70 x71 x72 x73 x74 x75 x76 x77 x78 x79 x80 x81 x82 x83 m W A2 c k5 V5 hm hp hl2 hc2 M5 F5
     refine hK2 _ _ ?_
     have hB2:=hB.add hp
     have hri:((r-1:Nat):Int)=(r:Int)-1:=by omega
     have hnm:((n+m:Nat):Int)=(n:Int)+(m:Int):=by omega
     have hl9:(A++A2).length≤(4-(r-1))*zen d:=by rw [List.length_append,q3];omega
     have hc9:c≤S.labels+(4-(r-1))*zdd d:=by rw [q4];omega
     by_cases hbig:1073741824<n+m
     ·have hbI:(1073741824:Int)<(n:Int)+(m:Int):=by omega
      go_wp2
      go_roundw
      case rel=>exact⟨1073741824,r-1,_,A++A2,k5,V5,rfl,by omega,by rw [hri],by omega,hB2,hl9,hc9,M5,F5⟩
      case measure=>simp [intOf];omega
     ·have hbI:¬(1073741824:Int)<(n:Int)+(m:Int):=by omega
      go_wp2
      go_roundw
      case rel=>exact⟨n+m,r-1,_,A++A2,k5,V5,by rw [hnm],by omega,by rw [hri],by omega,hB2,hl9,hc9,M5,F5⟩
      case measure=>simp [intOf];omega
    clear hK3 hK2 hB hA hL
    refine hK0 _ _ ?_
    have joinH:=hid0 join
    clear join
    have hs6:s=0∨s=1∨s=2∨s=3∨s=4∨s=5:=by omega
    have g0:=M4.cx
    obtain⟨g20,_⟩:=M4.deepAt e1
    have x0:=M4.blk.di.c0
    have x1:=M4.blk.di.c1
    have hlen:=M4.blk.di.len
    obtain⟨xo,xc,hxv,_,_⟩:=M4.blk.di.row
    rw [hxv] at x0
    clear c3 f4 M3 F3
    by_cases hs1:s≤1
    ·have hs2:s=0∨s=1:=by omega
     by_cases hd3:d<3
     ·have hdd:decide (d<3)=true:=by simpa using hd3
      have hdi:decide ((d:Int)<3)=true:=decide_eq_true (by omega)
      have hlo3:=hlo hd3
      by_cases hk4:k4<code.length
      ·have hkd:decide (k4<code.length)=true:=by simpa using hk4
       have hki:decide ((k4:Int)<(code.length:Int))=true:=by simpa using hk4
       rcases hs2 with rfl|rfl
       all_goals
        go_wp2_with fail
        go_quiet(fail)
        replace M4:=M4.drewN nq
        replace F4:=F4.trans (Fr.low (zbD _ nq _))
        generalize w4.drewN nq=w4 at M4 F4 ⊢
        go_wp2_with(first
         | (go_at_call 93;refine Hid.out ?_))
        unfold Hid
        refine(hlo3 B _ b px cv code T _ _ M4 e1 e2 e3 e4 e5 e6).mono ?_
        rintro e w5 ⟨⟨m,rfl,hm⟩,hpp⟩
        dsimp only
        replace hm:m≤1000000000000000:=hm
        obtain⟨A2,c,hp,hl2,hc2,k5,V5,M5,f5⟩:=hpp.mono (Nat.le_refl _) (Nat.le_refl _)
        have F5:=F4.trans f5
        go_wp2_with fail
        exact(Hid.out2 joinH) _ _ _ _ _ _ _ _ _ _ _ _ _ _ _ _ _ _ _ _ _ _ _ _ _ _ _ _ _ _ _ _ _ _ _ _ _ _ _ _ _ _ _ _ _ _ _ _ _ _ _ _ _ _ _ _ _ _ _ _ _ _ _ _ _ _ _ _ _ _ _ _ _ m w5 A2 c k5 V5 hm hp hl2 hc2 M5 F5
      ·have hkd:decide (k4<code.length)=false:=by simpa using hk4
       have hki:decide ((k4:Int)<(code.length:Int))=false:=by simpa using hk4
       rcases hs2 with rfl|rfl
       all_goals
        go_wp2_with fail
        go_quiet(fail)
        replace M4:=M4.drewN nq
        replace F4:=F4.trans (Fr.low (zbD _ nq _))
        generalize w4.drewN nq=w4 at M4 F4 ⊢
        go_wp2_with(first
         | (go_at_call 94;refine Hid.out ?_))
        unfold Hid
        refine(hpl B _ b px cv code T _ _ M4 e1 e2 e3 e4 e5 e6).mono ?_
        rintro e w5 ⟨⟨m,rfl,hm⟩,hpp⟩
        dsimp only
        replace hm:m≤1000000000000000:=hm
        obtain⟨A2,c,hp,hl2,hc2,k5,V5,M5,f5⟩:=hpp.mono p2 (Nat.zero_le (zdd d))
        have F5:=F4.trans f5
        go_wp2_with fail
        exact(Hid.out2 joinH) _ _ _ _ _ _ _ _ _ _ _ _ _ _ _ _ _ _ _ _ _ _ _ _ _ _ _ _ _ _ _ _ _ _ _ _ _ _ _ _ _ _ _ _ _ _ _ _ _ _ _ _ _ _ _ _ _ _ _ _ _ _ _ _ _ _ _ _ _ _ _ _ _ m w5 A2 c k5 V5 hm hp hl2 hc2 M5 F5
     ·have hdd:decide (d<3)=false:=by simpa using hd3
      have hdi:decide ((d:Int)<3)=false:=decide_eq_false (by omega)
      rcases hs2 with rfl|rfl
      all_goals
       go_wp2_with fail
       go_quiet(fail)
       replace M4:=M4.drewN nq
       replace F4:=F4.trans (Fr.low (zbD _ nq _))
       generalize w4.drewN nq=w4 at M4 F4 ⊢
       go_wp2_with(first
        | (go_at_call 94;refine Hid.out ?_))
       unfold Hid
       refine(hpl B _ b px cv code T _ _ M4 e1 e2 e3 e4 e5 e6).mono ?_
       rintro e w5 ⟨⟨m,rfl,hm⟩,hpp⟩
       dsimp only
       replace hm:m≤1000000000000000:=hm
       obtain⟨A2,c,hp,hl2,hc2,k5,V5,M5,f5⟩:=hpp.mono p2 (Nat.zero_le (zdd d))
       have F5:=F4.trans f5
       go_wp2_with fail
       exact(Hid.out2 joinH) _ _ _ _ _ _ _ _ _ _ _ _ _ _ _ _ _ _ _ _ _ _ _ _ _ _ _ _ _ _ _ _ _ _ _ _ _ _ _ _ _ _ _ _ _ _ _ _ _ _ _ _ _ _ _ _ _ _ _ _ _ _ _ _ _ _ _ _ _ _ _ _ _ m w5 A2 c k5 V5 hm hp hl2 hc2 M5 F5
    ·have hs2:s=2∨s=3∨s=4∨s=5:=by omega
     rcases hs2 with rfl|rfl|rfl|rfl
     ·go_wp2_with(first
       | (go_at_call 95;refine Hid.out ?_))
      unfold Hid
      refine(htc B _ b px cv code T _ _ M4 e1 e2 e3 e4 e5 e6).mono ?_
      rintro e w5 ⟨⟨m,rfl,hm⟩,hpp⟩
      dsimp only
      replace hm:m≤1000000000000000:=hm
      obtain⟨A2,c,hp,hl2,hc2,k5,V5,M5,f5⟩:=hpp.mono p2 (Nat.zero_le (zdd d))
      have F5:=F4.trans f5
      go_wp2_with fail
      exact(Hid.out2 joinH) _ _ _ _ _ _ _ _ _ _ _ _ _ _ _ _ _ _ _ _ _ _ _ _ _ _ _ _ _ _ _ _ _ _ _ _ _ _ _ _ _ _ _ _ _ _ _ _ _ _ _ _ _ _ _ _ _ _ _ _ _ _ _ _ _ _ _ _ _ _ _ _ _ m w5 A2 c k5 V5 hm hp hl2 hc2 M5 F5
     ·go_wp2_with(first
       | (go_at_call 61;refine Hid.out ?_))
      unfold Hid
      refine(hcl B _ b px cv code T _ _ M4 e1 e2 e3 e4 e5 e6).mono ?_
      rintro e w5 ⟨⟨m,rfl,hm⟩,hpp⟩
      dsimp only
      replace hm:m≤1000000000000000:=hm
      obtain⟨A2,c,hp,hl2,hc2,k5,V5,M5,f5⟩:=hpp.mono p2 (Nat.zero_le (zdd d))
      have F5:=F4.trans f5
      go_wp2_with fail
      exact(Hid.out2 joinH) _ _ _ _ _ _ _ _ _ _ _ _ _ _ _ _ _ _ _ _ _ _ _ _ _ _ _ _ _ _ _ _ _ _ _ _ _ _ _ _ _ _ _ _ _ _ _ _ _ _ _ _ _ _ _ _ _ _ _ _ _ _ _ _ _ _ _ _ _ _ _ _ _ m w5 A2 c k5 V5 hm hp hl2 hc2 M5 F5
     ·go_wp2_with(first
       | (go_at_call 94;refine Hid.out ?_))
      unfold Hid
      refine(hpl B _ b px cv code T _ _ M4 e1 e2 e3 e4 e5 e6).mono ?_
      rintro e w5 ⟨⟨m,rfl,hm⟩,hpp⟩
      dsimp only
      replace hm:m≤1000000000000000:=hm
      obtain⟨A2,c,hp,hl2,hc2,k5,V5,M5,f5⟩:=hpp.mono p2 (Nat.zero_le (zdd d))
      have F5:=F4.trans f5
      go_wp2_with fail
      exact(Hid.out2 joinH) _ _ _ _ _ _ _ _ _ _ _ _ _ _ _ _ _ _ _ _ _ _ _ _ _ _ _ _ _ _ _ _ _ _ _ _ _ _ _ _ _ _ _ _ _ _ _ _ _ _ _ _ _ _ _ _ _ _ _ _ _ _ _ _ _ _ _ _ _ _ _ _ _ m w5 A2 c k5 V5 hm hp hl2 hc2 M5 F5
     ·go_wp2_with(first
       | (go_at_call 94;refine Hid.out ?_))
      unfold Hid
      refine(hpl B _ b px cv code T _ _ M4 e1 e2 e3 e4 e5 e6).mono ?_
      rintro e w5 ⟨⟨m,rfl,hm⟩,hpp⟩
      dsimp only
      replace hm:m≤1000000000000000:=hm
      obtain⟨A2,c,hp,hl2,hc2,k5,V5,M5,f5⟩:=hpp.mono p2 (Nat.zero_le (zdd d))
      have F5:=F4.trans f5
      go_wp2_with fail
      exact(Hid.out2 joinH) _ _ _ _ _ _ _ _ _ _ _ _ _ _ _ _ _ _ _ _ _ _ _ _ _ _ _ _ _ _ _ _ _ _ _ _ _ _ _ _ _ _ _ _ _ _ _ _ _ _ _ _ _ _ _ _ _ _ _ _ _ _ _ _ _ _ _ _ _ _ _ _ _ m w5 A2 c k5 V5 hm hp hl2 hc2 M5 F5
   ·go_wp2_with fail
    go_quiet(fail)
    go_wp2
    go_ret
    refine⟨⟨n,rfl,hn2⟩,A,T.labels,hB.pc,?_,?_,k2,V2,(M.drewN _).re hB.eq,F.trans (Fr.low (zbD _ _ _))⟩
    ·rw [l4]
     exact Nat.le_trans hA (Nat.mul_le_mul_right _ (by omega))
    ·rw [b4]
     exact Nat.le_trans hL (Nat.add_le_add_left (Nat.mul_le_mul_right _ (by omega)) _)
theorem zzK:zji 3:=zkN 3 (by omega) (fun h=>absurd h (by omega))
theorem zzL:zji 2:=zkN 2 (by omega) (fun _=>zgP 2 (by omega) zzK)
theorem zzM:zji 1:=zkN 1 (by omega) (fun _=>zgP 1 (by omega) zzL)
theorem zzN:zji 0:=zkN 0 (by omega) (fun _=>zgP 0 (by omega) zzM)
end
end Go.Proofs.YtfpgjkbjbbgciaaGreatDoor
