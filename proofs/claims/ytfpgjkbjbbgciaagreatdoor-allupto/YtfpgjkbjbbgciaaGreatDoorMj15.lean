import Derived.Test.YtfpgjkbjbbgciaaGreatDoorMj10
import Derived.Test.YtfpgjkbjbbgciaaGreatDoorMj12
set_option maxRecDepth 100000
set_option maxHeartbeats 8000000
namespace Go.Proofs.YtfpgjkbjbbgciaaGreatDoor
section
open Go.RowKit Sp
abbrev rv(r:Rg):Value:=.agg #[.int .i64 r.lo,.int .i64 r.hi]
theorem Tryz.info213:(Tryz.prog.info? 213).map (·.size)=some 2:=by kernel_rfl
theorem zcz(a b:Int):∀ W,(Instr.build 213 #[(0,.int .i64 a),(1,.int .i64 b)]).run Tryz.prog W=.ok (.agg #[.int .i64 a,.int .i64 b]) W:=fun W=>run_build W 213 _ _ (by kernel_rfl)
theorem znP{X:World}{b o:Nat}{r:Rg}(h0:X.cell? ⟨b,o,none⟩=some (.int .i64 r.lo))(h1:X.cell? ⟨b,o+1,none⟩=some (.int .i64 r.hi)):(loadVar 213 ⟨b,o,none⟩).run Tryz.prog X=.ok (rv r) X:=by
 have c:Tryz.prog.underlying 213=some (.struct _):=Tryz.underlying213;refine run_loadVar_mid X b o 213 [.int .i64 r.lo,.int .i64 r.hi] _ ?_ c rfl Tryz.info213;intro j u a
 match j,a with
 | 0,a=>simp at a;subst a;exact h0
 | 1,a=>simp at a;subst a;exact h1
theorem zbK{fn:Func}{a:Tmp}{Q:Ending→World→Prop}{X:World}{act:Act}{b:Nat}{r:Rg}(hr:fn.results=#[.cell a 213])(hp:act.tmps.getD a undef=.pointer (some ⟨b,0,none⟩))(hd:act.defers=[])
  (h0:X.cell? ⟨b,0,none⟩=some (.int .i64 r.lo)) (h1:X.cell? ⟨b,1,none⟩=some (.int .i64 r.hi)) (hq:Q (.returned (rv r)) X):bodyPost Tryz.prog fn Q .ret act X :=
 bodyPost_ret (zb9 hr act.tmps ⟨b,0,none⟩ hp (znP h0 h1)) hd hq
theorem box1{w:World}{a:Obj}:qB w (w.alloc a):=(Below.refl _ _).alloc (Nat.le_refl _) _
theorem box2{w:World}{a b:Obj}:qB w ((w.alloc a).alloc b):=box1.alloc (by simp) _
theorem zkI(x:Int):IntKind.u64.wrap x=x%18446744073709551616:=by
 simp [IntKind.wrap,IntKind.bits,IntKind.signed]
theorem zhB(n:Int)(w:World):qC 226 #[.int .i64 n] w (qR w (rv (only n))):=by
 have hb:=zcz n n;go_enter Tryz.func226,Tryz.ntmps226;go_wp2;exact zbK (r:=only n) Tryz.results226 rfl rfl (by simp [only]) (by simp [only]) ⟨rfl,box1⟩
theorem zi9(w:World):qC 238 #[] w (qR w (rv anyR)):=by
 have hb:=zcz (-9223372036854775808) 9223372036854775807;go_enter Tryz.func238,Tryz.ntmps238;go_wp2;exact zbK (r:=anyR) Tryz.results238 rfl rfl (by simp [anyR]) (by simp [anyR]) ⟨rfl,box1⟩
theorem zpu(r o:Rg)(w:World):qC 156 #[rv r,rv o] w (qR w (rv (r.or o))):=by
 have hb:=zcz (min r.lo o.lo) (max r.hi o.hi);go_enter Tryz.func156,Tryz.ntmps156;go_wp2;exact zbK (r:=r.or o) Tryz.results156 rfl rfl (zaG _ _ _ _ _ 0) (zaG _ _ _ _ _ 1) ⟨rfl,zaO⟩
theorem zjV(r o:Rg)(w:World):qC 182 #[rv r,rv o] w (qR w (.bool (r.within o))):=by
 by_cases h:o.lo≤r.lo
 ·go_enter Tryz.func182,Tryz.ntmps182;go_wp2;go_ret;exact⟨by simp [Rg.within,h],box2⟩
 ·have hd:decide (o.lo≤r.lo)=false:=by simpa using h
  go_enter Tryz.func182,Tryz.ntmps182;go_wp2;go_ret;exact⟨by unfold Rg.within;rw [hd];rfl,box2⟩
theorem zmq(r:Rg)(w:World):qC 237 #[rv r] w (qR w (.int .u64 r.width)):=by
 have e:IntKind.u64.wrap (IntKind.u64.wrap r.hi-IntKind.u64.wrap r.lo)=r.width:=by
  rw [zkI,zkI,zkI];unfold Rg.width;omega
 go_enter Tryz.func237,Tryz.ntmps237;go_wp2;go_ret;exact⟨rfl,box1⟩
theorem zy4{x a:Int}(hx:i64 x)(h1:¬a=-1):i64 (x.tdiv a):=by
 have hn:(x.tdiv a).natAbs=x.natAbs/a.natAbs:=Int.natAbs_tdiv x a;by_cases c:a=0
 ·subst c;simp [i64]
 ·by_cases b:a=1
  ·subst b;simpa using hx
  ·have:x.natAbs/a.natAbs≤x.natAbs/2:=Nat.div_le_div_left (by omega) (by omega);unfold i64 at *;omega
theorem zdu(a b:Int)(w:World):qC 246 #[.int .i64 a,.int .i64 b] w fun e w'=>e=.returned (.bool (zbJ a b))∧w'=w:=by
 by_cases c:a=-1
 ·subst c;have f:zbJ (-1) b=(b == -9223372036854775808):=by unfold zbJ;rw [if_pos rfl];rfl
  rw [f];go_enter Tryz.func246,Tryz.ntmps246;go_wp2;go_ret;exact⟨rfl,rfl⟩
 ·have f:zbJ a b=(a != 0&&wrap64 ((wrap64 (a*b)).tdiv a) != b):=by
   unfold zbJ;rw [if_neg c,zc9,zc9,zgq (zy4 (zeh _) c)];by_cases d:a=0 <;> by_cases g:(w64 (a*b)).tdiv a=b <;> simp [d,g,bne]
  have h1':(a == -1)=false:=by simpa using c
  by_cases d:a=0
  ·rw [f];clear f;subst d;go_enter Tryz.func246,Tryz.ntmps246;go_wp2;go_ret;exact⟨rfl,rfl⟩
  ·rw [f];clear f;have h0':(a != 0)=true:=by simpa using d
   go_enter Tryz.func246,Tryz.ntmps246;go_wp2;go_ret;exact⟨by rw [h0',Bool.true_and];rfl,rfl⟩
end
section
def HpAll(f:Nat→Int)(n:Nat):Prop:=∀ i,0<i→i<n→f ((i-1)/2)≤f i
structure RiseI(f:Nat→Int)(n a:Nat):Prop where
 all:∀ i,0<i→i<n→¬i=a→f ((i-1)/2)≤f i
 over:∀ i,0<i→i<n→(i-1)/2=a→0<a→f ((a-1)/2)≤f i
structure SinkI(f:Nat→Int)(n a:Nat):Prop where
 all:∀ i,0<i→i<n→¬(i-1)/2=a→f ((i-1)/2)≤f i
 over:∀ i,0<i→i<n→(i-1)/2=a→0<a→f ((a-1)/2)≤f i
def znU(f:Nat→Int)(a b:Nat):Nat→Int:=fun i=>if i=a then f b else if i=b then f a else f i
theorem HpAll.least{f:Nat→Int}{n:Nat}(h:HpAll f n):∀ i,i<n→f 0≤f i:=by
 intro i
 induction i using Nat.strongRecOn with
 | ind i ih =>
  intro a;by_cases b:i=0
  ·subst b;exact Int.le_refl _
  ·have h1:=ih ((i-1)/2) (by omega) (by omega);have h2:=h i (by omega) a;omega
theorem RiseI.done{f:Nat→Int}{n a:Nat}(h:RiseI f n a)(h0:a=0∨f ((a-1)/2)≤f a):HpAll f n:=by
 intro i b c;by_cases e:i=a
 ·subst e;rcases h0 with h0|h0
  ·omega
  ·exact h0
 ·exact h.all i b c e
theorem RiseI.step{f:Nat→Int}{n a:Nat}(h:RiseI f n a)(ha:0<a)(han:a<n)(hle:f a≤f ((a-1)/2)):RiseI (znU f a ((a-1)/2)) n ((a-1)/2):=by
 have c:∀ x,znU f a ((a-1)/2) x=if x=a then f ((a-1)/2) else if x=(a-1)/2 then f a else f x:=fun x=>rfl
 constructor
 ·intro i g j k;rw [c,c];by_cases b:i=a
  ·subst b;rw [if_neg (by omega),if_pos rfl,if_pos rfl];exact hle
  ·rw [if_neg b,if_neg k];by_cases l:(i-1)/2=a
   ·rw [if_pos l];exact h.over i g j l ha
   ·rw [if_neg l];have d:=h.all i g j b;by_cases o:(i-1)/2=(a-1)/2
    ·rw [if_pos o];rw [o] at d;omega
    ·rw [if_neg o];exact d
 ·intro i g j e m;rw [c,c,if_neg (by omega),if_neg (by omega)];have p:=h.all ((a-1)/2) m (by omega) (by omega);by_cases b:i=a
  ·rw [if_pos b];exact p
  ·rw [if_neg b,if_neg (by omega)];have d:=h.all i g j b;rw [e] at d;omega
theorem SinkI.done{f:Nat→Int}{n a:Nat}(h:SinkI f n a)(h1:2*a+1<n→f a≤f (2*a+1))(h2:2*a+2<n→f a≤f (2*a+2)):HpAll f n:=by
 intro i c b;by_cases e:(i-1)/2=a
 ·rcases(by omega:i=2*a+1∨i=2*a+2) with rfl|rfl
  ·rw [e];exact h1 b
  ·rw [e];exact h2 b
 ·exact h.all i c b e
theorem SinkI.step{f:Nat→Int}{n a c:Nat}(h:SinkI f n a)(hc:c=2*a+1∨c=2*a+2)(hcn:c<n)(h0:f c≤f a)(h1:2*a+1<n→f c≤f (2*a+1))(h2:2*a+2<n→f c≤f (2*a+2)):SinkI (znU f a c) n c:=by
 have b:∀ x,znU f a c x=if x=a then f c else if x=c then f a else f x:=fun x=>rfl
 constructor
 ·intro i g d j;rw [b,b];by_cases l:i=c
  ·subst l;rw [if_pos (by omega),if_neg (by omega),if_pos rfl];exact h0
  ·by_cases m:i=a
   ·subst m;rw [if_neg (by omega),if_neg (by omega),if_pos rfl];exact h.over c (by omega) hcn (by omega) g
   ·rw [if_neg m,if_neg l,if_neg j];by_cases k:(i-1)/2=a
    ·rw [if_pos k];rcases(by omega:i=2*a+1∨i=2*a+2) with rfl|rfl
     ·exact h1 d
     ·exact h2 d
    ·rw [if_neg k];exact h.all i g d k
 ·intro i g d e hc2;rw [b,b,if_pos (by omega),if_neg (by omega),if_neg (by omega)];have o:=h.all i g d (by omega);rw [e] at o;exact o
theorem SinkI.head{f g:Nat→Int}{n m:Nat}(h:HpAll f n)(hm:m≤n)(e:∀ i,0<i→i<m→g i=f i):SinkI g m 0 :=
 ⟨fun i hi hn hne=>by rw [e i hi hn,e _ (by omega) (by omega)];exact h i hi (by omega),fun i hi hn _ h0=>absurd h0 (by omega)⟩
theorem RiseI.last{f g:Nat→Int}{n:Nat}(h:HpAll f n)(e:∀ i,i<n→g i=f i):RiseI g (n+1) n :=
 ⟨fun i hi hn hne=>by rw [e i (by omega),e _ (by omega)];exact h i hi (by omega),fun i hi hn e2=>by omega⟩
def ze3{α:Type}(d:α)(l:List α)(i j:Nat):List α:=(l.set i (l.getD j d)).set j (l.getD i d)
theorem zuk{α:Type}(d:α)(l:List α)(i j:Nat):(ze3 d l i j).length=l.length:=by simp [ze3]
theorem zgU{α:Type}{d:α}{l:List α}{i j:Nat}(hi:i<l.length)(hj:j<l.length):(ze3 d l i j).Perm l:=by
 have e1:l.getD j d=l[j]:=by simp [List.getD,hj]
 have a:l.getD i d=l[i]:=by simp [List.getD,hi]
 unfold ze3;rw [e1,a];exact List.set_set_perm hi hj
theorem zpy{α:Type}{d:α}{l:List α}{i j:Nat}(hi:i<l.length)(hj:j<l.length)(hne:¬i=j)(x:Nat):(ze3 d l i j).getD x d=if x=i then l.getD j d else if x=j then l.getD i d else l.getD x d:=by
 unfold ze3;simp only [List.getD,List.getElem?_set];by_cases e:j=x
 ·subst e;have hne':¬j=i:=fun h=>hne h.symm;simp [hne',hj]
 ·have a:¬x=j:=fun h=>e h.symm;by_cases b:i=x
  ·subst b;simp [e,hi]
  ·have c:¬x=i:=fun h=>b h.symm;simp [e,b,a,c]
theorem zul{α:Type}{d:α}{l:List α}{i j:Nat}(hi:i<l.length)(hj:j<l.length)(hne:¬i=j)(st:α→Int):(fun x=>st ((ze3 d l i j).getD x d))=znU (fun x=>st (l.getD x d)) i j:=by
 funext x
 show st ((ze3 d l i j).getD x d)=if x=i then st (l.getD j d) else if x=j then st (l.getD i d) else st (l.getD x d)
 rw [zpy hi hj hne];split
 ·rfl
 ·split <;> rfl
end
section
open Go.RowKit Sp
theorem ztk(L:List Said)(k:Nat)(h:k<L.length)(h1:(L[k].kind != 105)=true):zaK L k=false:=by
 simp at h1;unfold zaK;rw [List.getElem?_eq_getElem h];simp only [h1,if_false]
theorem zgj(L:List Said)(k m:Nat)(h:k<L.length)(h1:(L[k].kind != 105)=false)(hl:L[k].kept.length=m+1)(h2:zaJ (L[k].kept[0])=true):zaK L k=decide (zcj L k (L[k].kept[m])<0):=by
 simp at h1;unfold zaK Said.last;rw [List.getElem?_eq_getElem h];simp only [h1,if_true,zcR _ 0 (show 0<L[k].kept.length by omega),h2,hl];rw [zcR _ (m+1-1) (by omega)];rfl
theorem zlE(L:List Said)(k m:Nat)(h:k<L.length)(h1:(L[k].kind != 105)=false)(hl:L[k].kept.length=m+1)(h2:zaJ (L[k].kept[0])=false)(h3:zc2 (L[k].kept[0])=true):zaK L k=decide (zaN L (L[k].kept[m]) 0<0):=by
 simp at h1;unfold zaK Said.last;rw [List.getElem?_eq_getElem h];simp only [h1,if_true,zcR _ 0 (show 0<L[k].kept.length by omega),h2,h3,hl];rw [zcR _ (m+1-1) (by omega)];rfl
theorem ztl(L:List Said)(k m:Nat)(h:k<L.length)(h1:(L[k].kind != 105)=false)(hl:L[k].kept.length=m+1)(h2:zaJ (L[k].kept[0])=false)(h3:zc2 (L[k].kept[0])=false):zaK L k=false:=by
 simp at h1;unfold zaK;rw [List.getElem?_eq_getElem h];simp [h1,zcR _ 0 (show 0<L[k].kept.length by omega),h2,h3]
theorem zlF(x:ByteArray)(h:(x.toList == [106,117,109,112])=true):zaJ x=true:=by simp [zaJ,isW,h]
theorem zlG(x:ByteArray)(h:(x.toList == [108,101,115,115])=true):zaJ x=true:=by simp [zaJ,isW,h]
theorem zlH(x:ByteArray)(h:(x.toList == [115,97,109,101])=true):zaJ x=true:=by simp [zaJ,isW,h]
theorem zjC(x:ByteArray)(h:(x.toList == [106,117,109,112])=false)(h1:(x.toList == [108,101,115,115])=false)(h2:(x.toList == [115,97,109,101])=false):zaJ x=false:=by simp [zaJ,isW,h,h1,h2]
theorem zir(L:List Said)(g cap k:Nat)(w:World)(hL:LinesIn w g L)(hn:L.length≤1048577)(hk:k<L.length):
  qC 48 #[.slice (some ⟨g,0,none⟩) L.length cap,.int .i64 (k:Int)] w fun e w'=>e=.returned (.bool (zaK L k))∧w'=w:=by
 have hc:=hL.kind k hk;have hb:=zdO (hL.wf k hk);cases h105:(L[k].kind != 105) with
 | true =>
  have a:Hid (false=zaK L k):=(ztk L k hk h105).symm;go_enter Tryz.func48,Tryz.ntmps48;go_wp2;go_ret;exact⟨zaE a.out,rfl⟩
 | false =>
  have l:=wf_i (hL.wf k hk) (by simp at h105;simpa using h105);have h:0<L[k].kept.length:=by omega
  obtain⟨m,j⟩:∃ m,L[k].kept.length=m+1:=⟨L[k].kept.length-1,by omega⟩
  have hm3:m≤3:=by omega
  obtain⟨b,c,n,d⟩:=hL.words k hk (by omega);have hw0:=d 0 h;have i:m<L[k].kept.length:=by omega
  have hwm:=d m i;rw [j] at n;have f:Hid (L[k].kept.length=m+1):=j;clear d j l;cases j1:((L[k].kept[0]'h).toList == [106,117,109,112]) with
  | true =>
   have a:Hid (decide (zcj L k (L[k].kept[m]'i)<0)=zaK L k):=(zgj L k m hk h105 f.out (zlF _ j1)).symm;go_enter Tryz.func48,Tryz.ntmps48;go_wp2_with(go_at_call 78;refine(zf3 L g cap k _ _ hL hn hk).mono ?_;rintro e w' ⟨rfl,rfl⟩)
   go_ret;exact⟨zaE a.out,rfl⟩
  | false =>
   cases j2:((L[k].kept[0]'h).toList == [108,101,115,115]) with
   | true =>
    have a:Hid (decide (zcj L k (L[k].kept[m]'i)<0)=zaK L k):=(zgj L k m hk h105 f.out (zlG _ j2)).symm;go_enter Tryz.func48,Tryz.ntmps48;go_wp2_with(go_at_call 78;refine(zf3 L g cap k _ _ hL hn hk).mono ?_;rintro e w' ⟨rfl,rfl⟩)
    go_ret;exact⟨zaE a.out,rfl⟩
   | false =>
    cases j3:((L[k].kept[0]'h).toList == [115,97,109,101]) with
    | true =>
     have a:Hid (decide (zcj L k (L[k].kept[m]'i)<0)=zaK L k):=(zgj L k m hk h105 f.out (zlH _ j3)).symm;go_enter Tryz.func48,Tryz.ntmps48;go_wp2_with(go_at_call 78;refine(zf3 L g cap k _ _ hL hn hk).mono ?_;rintro e w' ⟨rfl,rfl⟩)
     go_ret;exact⟨zaE a.out,rfl⟩
    | false =>
     cases j4:((L[k].kept[0]'h).toList == [99,97,108,108]) with
     | true =>
      have a:Hid (decide (zaN L (L[k].kept[m]'i) 0<0)=zaK L k):=(zlE L k m hk h105 f.out (zjC _ j1 j2 j3) j4).symm;go_enter Tryz.func48,Tryz.ntmps48;go_wp2_with(go_at_call 77;refine(zo9 L g cap _ _ hL hn).mono ?_;rintro e w' ⟨rfl,rfl⟩)
      go_ret;exact⟨zaE a.out,rfl⟩
     | false =>
      have a:Hid (false=zaK L k):=(ztl L k m hk h105 f.out (zjC _ j1 j2 j3) j4).symm;go_enter Tryz.func48,Tryz.ntmps48;go_wp2;go_ret;exact⟨zaE a.out,rfl⟩
theorem ztm(L:List Said)(k:Nat)(h:k<L.length)(h1:(L[k].kind != 102)=true):zbs L k=false:=by
 simp at h1;unfold zbs;rw [List.getElem?_eq_getElem h];simp only [h1,if_false]
theorem zis(L:List Said)(k:Nat)(h:k<L.length)(h1:(L[k].kind != 102)=false):zbs L k=!zep L (k+1) false:=by
 simp at h1;unfold zbs;rw [List.getElem?_eq_getElem h];simp only [h1,if_true]
theorem zyh(L:List Said)(i:Nat)(e:Bool)(h:i<L.length)(h0:(L[i].kind != 102)=true)(h1:(L[i].kind == 108)=true):zep L i e=zep L (i+1) false:=by
 simp at h0 h1;rw [zdI L i e h h0,if_pos h1]
theorem zyi(L:List Said)(i:Nat)(e:Bool)(h:i<L.length)(h0:(L[i].kind != 102)=true)(h1:(L[i].kind == 108)=false)(h2:(L[i].kind == 105)=true)(hl:0<L[i].kept.length):zep L i e=zep L (i+1) (ends (L[i].kept[0])):=by
 simp at h0 h1 h2;rw [zdI L i e h h0,if_neg h1,if_pos h2,zcR _ 0 hl]
theorem zyj(L:List Said)(i:Nat)(e:Bool)(h:i<L.length)(h0:(L[i].kind != 102)=true)(h1:(L[i].kind == 108)=false)(h2:(L[i].kind == 105)=false):zep L i e=zep L (i+1) e:=by
 simp at h0 h1 h2;rw [zdI L i e h h0,if_neg h1,if_neg h2]
theorem zzv(x:ByteArray)(h:(x.toList == [106,117,109,112])=true):ends x=true:=by simp [ends,isW,h]
theorem zzw(x:ByteArray)(h:(x.toList == [98,97,99,107])=true):ends x=true:=by simp [ends,isW,h]
theorem zxx(x:ByteArray)(h:(x.toList == [106,117,109,112])=false)(h1:(x.toList == [98,97,99,107])=false):ends x=(x.toList == [115,116,111,112]):=by simp [ends,isW,h,h1]
theorem zit(L:List Said)(g cap k:Nat)(w:World)(hL:LinesIn w g L)(hn:L.length≤1048577)(hk:k<L.length):
  qC 49 #[.slice (some ⟨g,0,none⟩) L.length cap,.int .i64 (k:Int)] w fun e w'=>e=.returned (.bool (zbs L k))∧w'=w:=by
 have m:=hL.kind k hk;have n:=zdO (hL.wf k hk);cases h102:(L[k].kind != 102) with
 | true =>
  have i:Hid (false=zbs L k):=(ztm L k hk h102).symm;go_enter Tryz.func49,Tryz.ntmps49;go_wp2;go_ret;exact⟨zaE i.out,rfl⟩
 | false =>
  have i:Hid (zbs L k=!zep L (k+1) false):=zis L k hk h102;go_enter Tryz.func49,Tryz.ntmps49;go_wp2;clear m n
  go_loop [5,6] (fun te ti=>∃(j:Nat) (e:Bool),j≤L.length∧ti=.int .i64 (j:Int)∧te=.bool e∧zbs L k=!zep L j e) (fun _ ti=>L.length-(intOf ti).toNat)
  case atStart=>exact⟨k+1,false,by omega,by go_num,rfl,i.out⟩
  case round =>
   obtain⟨j,e,hj,rfl,rfl,o⟩:=hrel;clear i;have i:Hid (zbs L k=!zep L j e):=o;clear o;by_cases a:j<L.length
   ·have m:=hL.kind j a;have n:=zdO (hL.wf j a);cases k102:(L[j].kind != 102) with
    | false =>
     have f:Hid ((!e)=zbs L k):=by unfold Hid;rw [i.out,znk L j e a (by simpa using k102)]
     go_wp2;go_ret;exact⟨zaE f.out,rfl⟩
    | true =>
     cases k108:(L[j].kind == 108) with
     | true =>
      have f:Hid (zbs L k=!zep L (j+1) false):=by unfold Hid;rw [i.out,zyh L j e a k102 k108]
      go_wp2
      go_round
      case rel=>exact⟨j+1,false,by omega,by go_num,rfl,f.out⟩
      case measure=>simp [intOf];omega
     | false =>
      cases k105:(L[j].kind == 105) with
      | false =>
       have f:Hid (zbs L k=!zep L (j+1) e):=by unfold Hid;rw [i.out,zyj L j e a k102 k108 k105]
       go_wp2
       go_round
       case rel=>exact⟨j+1,e,by omega,by go_num,rfl,f.out⟩
       case measure=>simp [intOf];omega
      | true =>
       have h2:=wf_i (hL.wf j a) k105;have d:0<L[j].kept.length:=by omega
       obtain⟨b,c,hw,l⟩:=hL.words j a (by omega);have hw0:=l 0 d;clear l;have f:Hid (zbs L k=!zep L (j+1) (ends (L[j].kept[0]))):=by unfold Hid;rw [i.out,zyi L j e a k102 k108 k105 d]
       cases j1:((L[j].kept[0]'d).toList == [106,117,109,112]) with
       | true =>
        have h:Hid (ends (L[j].kept[0])=true):=zzv _ j1;go_wp2
        go_round
        case rel=>exact⟨j+1,true,by omega,by go_num,rfl,by rw [f.out,h.out]⟩
        case measure=>simp [intOf];omega
       | false =>
        cases j2:((L[j].kept[0]'d).toList == [98,97,99,107]) with
        | true =>
         have h:Hid (ends (L[j].kept[0])=true):=zzw _ j2;go_wp2
         go_round
         case rel=>exact⟨j+1,true,by omega,by go_num,rfl,by rw [f.out,h.out]⟩
         case measure=>simp [intOf];omega
        | false =>
         cases j3:((L[j].kept[0]'d).toList == [115,116,111,112]) with
         | true =>
          have h:Hid (ends (L[j].kept[0])=true):=(zxx _ j1 j2).trans j3;go_wp2
          go_round
          case rel=>exact⟨j+1,true,by omega,by go_num,rfl,by rw [f.out,h.out]⟩
          case measure=>simp [intOf];omega
         | false =>
          have h:Hid (ends (L[j].kept[0])=false):=(zxx _ j1 j2).trans j3;go_wp2
          go_round
          case rel=>exact⟨j+1,false,by omega,by go_num,rfl,by rw [f.out,h.out]⟩
          case measure=>simp [intOf];omega
   ·have f:Hid ((!e)=zbs L k):=by unfold Hid;rw [i.out,zhV L j e a]
    go_wp2;go_ret;exact⟨zaE f.out,rfl⟩
theorem zay{X:World}{b:Nat}{u0 u1 v0 v1:Value}(h0:X.cell? ⟨b,0,none⟩=some u0)(h1:X.cell? ⟨b,1,none⟩=some u1):((X.setCell ⟨b,0,none⟩ v0).setCell ⟨b,1,none⟩ v1).cell? ⟨b,0,none⟩=some v0∧((X.setCell ⟨b,0,none⟩ v0).setCell ⟨b,1,none⟩ v1).cell? ⟨b,1,none⟩=some v1:=by
 refine⟨?_,?_⟩
 ·rw [World.cell?_setCell_other]
  ·exact World.cell?_setCell_same X _ _ h0
  ·simp
 ·refine World.cell?_setCell_same (u:=u1) _ _ _ ?_;rw [World.cell?_setCell_other]
  ·exact h1
  ·simp
theorem za4{B:Nat}{w X:World}{b:Nat}{v0 v1:Value}(h:Below B w X)(hb:B≤b):Below B w ((X.setCell ⟨b,0,none⟩ v0).setCell ⟨b,1,none⟩ v1):=(h.setCell (p:=⟨b,0,none⟩) hb _).setCell (p:=⟨b,1,none⟩) hb _
theorem zfo(w:World)(a b:Obj)(cs:Array Value)(t:TypeId)(j:Nat):(((w.alloc a).alloc b).alloc (.cells cs t)).frozen? ⟨w.heap.size+1+1,j,none⟩=false:=World.frozen?_alloc_at _ _ _ _ (by simp)
theorem zkK(x:Int):IntKind.i64.wrap x=w64 x:=by
 unfold IntKind.wrap w64;simp [IntKind.bits,IntKind.signed];split <;> omega
theorem zcg{W W':World}{p0 p1 p2 p3:Addr}{v0 v1 v2 v3:Value}(hb:qB W W')(h:W.cell? p0=some v0∧W.cell? p1=some v1∧W.cell? p2=some v2∧W.cell? p3=some v3):W'.cell? p0=some v0∧W'.cell? p1=some v1∧W'.cell? p2=some v2∧W'.cell? p3=some v3 :=
 ⟨zap hb h.1,zap hb h.2.1,zap hb h.2.2.1,zap hb h.2.2.2⟩
theorem zpv(low:Int)(r o:Rg)(w:World):qC 235 #[.int .i64 low,rv r,rv o] w (qR w (rv (zfF low r o))):=by
 have m:=fun W=>zmq r W;have s:=fun W=>zmq o W;have E:0≤r.width:=by unfold Rg.width;omega
 have D:0≤o.width:=by unfold Rg.width;omega
 have p:=zrk r.width o.width E D;have z:qB w (((w.alloc (.cells #[.int .i64 r.lo,.int .i64 r.hi] 213)).alloc (.cells #[.int .i64 o.lo,.int .i64 o.hi] 213)).alloc (.cells #[.int .i64 0,.int .i64 0] 213)):=zaO;have A:(((w.alloc (.cells #[.int .i64 r.lo,.int .i64 r.hi] 213)).alloc (.cells #[.int .i64 o.lo,.int .i64 o.hi] 213)).alloc (.cells #[.int .i64 0,.int .i64 0] 213)).heap.size=w.heap.size+1+1+1:=by simp
 have x:(((w.alloc (.cells #[.int .i64 r.lo,.int .i64 r.hi] 213)).alloc (.cells #[.int .i64 o.lo,.int .i64 o.hi] 213)).alloc (.cells #[.int .i64 0,.int .i64 0] 213)).cell? ⟨w.heap.size,0,none⟩=some (.int .i64 r.lo)∧(((w.alloc (.cells #[.int .i64 r.lo,.int .i64 r.hi] 213)).alloc (.cells #[.int .i64 o.lo,.int .i64 o.hi] 213)).alloc (.cells #[.int .i64 0,.int .i64 0] 213)).cell? ⟨w.heap.size,1,none⟩=some (.int .i64 r.hi)∧(((w.alloc (.cells #[.int .i64 r.lo,.int .i64 r.hi] 213)).alloc (.cells #[.int .i64 o.lo,.int .i64 o.hi] 213)).alloc (.cells #[.int .i64 0,.int .i64 0] 213)).cell? ⟨w.heap.size+1,0,none⟩=some (.int .i64 o.lo)∧(((w.alloc (.cells #[.int .i64 r.lo,.int .i64 r.hi] 213)).alloc (.cells #[.int .i64 o.lo,.int .i64 o.hi] 213)).alloc (.cells #[.int .i64 0,.int .i64 0] 213)).cell? ⟨w.heap.size+1,1,none⟩=some (.int .i64 o.hi) :=
  ⟨zbr _ _ _ _ _ 0,zbr _ _ _ _ _ 1,zcM _ _ _ _ _ 0,zcM _ _ _ _ _ 1⟩
 have H:(((w.alloc (.cells #[.int .i64 r.lo,.int .i64 r.hi] 213)).alloc (.cells #[.int .i64 o.lo,.int .i64 o.hi] 213)).alloc (.cells #[.int .i64 0,.int .i64 0] 213)).cell? ⟨w.heap.size+1+1,0,none⟩=some (.int .i64 0):=zaG _ _ _ _ _ 0;have I:(((w.alloc (.cells #[.int .i64 r.lo,.int .i64 r.hi] 213)).alloc (.cells #[.int .i64 o.lo,.int .i64 o.hi] 213)).alloc (.cells #[.int .i64 0,.int .i64 0] 213)).cell? ⟨w.heap.size+1+1,1,none⟩=some (.int .i64 0):=zaG _ _ _ _ _ 1;have F:∀ j,(((w.alloc (.cells #[.int .i64 r.lo,.int .i64 r.hi] 213)).alloc (.cells #[.int .i64 o.lo,.int .i64 o.hi] 213)).alloc (.cells #[.int .i64 0,.int .i64 0] 213)).frozen? ⟨w.heap.size+1+1,j,none⟩=false:=fun j=>zfo _ _ _ _ _ j;go_enter Tryz.func235,Tryz.ntmps235;go_wp2_with fail
 generalize ((w.alloc (.cells #[.int .i64 r.lo,.int .i64 r.hi] 213)).alloc (.cells #[.int .i64 o.lo,.int .i64 o.hi] 213)).alloc (.cells #[.int .i64 0,.int .i64 0] 213)=W0 at z A x H I F;go_region_held3 (fun W=>W.cell? ⟨w.heap.size,0,none⟩=some (.int .i64 r.lo)∧W.cell? ⟨w.heap.size,1,none⟩=some (.int .i64 r.hi)∧W.cell? ⟨w.heap.size+1,0,none⟩=some (.int .i64 o.lo)∧W.cell? ⟨w.heap.size+1,1,none⟩=some (.int .i64 o.hi))
  (first|exact N|exact C|exact x)
  (first|(go_at_call 237;(with_reducible refine(m _).mono ?_);rintro e w2 ⟨rfl,i⟩;have C:=zcg i x)|(go_at_call 237;(with_reducible refine(s _).mono ?_);rintro e g ⟨rfl,l⟩;have N:=zcg l C)|(simp only;simp only [Oper.upon]))
 have c:qB W0 g:=((Below.refl _ _).drew).trans (i.trans (l.mono i.size));have d:qB w g:=z.trans (c.mono z.size);have y:=zap c H;have v:=zap c I;have B:∀ j,g.frozen? ⟨w.heap.size+1+1,j,none⟩=false:=fun j=>(World.frozen?_of_block (w:=W0) (a:=⟨w.heap.size+1+1,j,none⟩) (c.block _ (show w.heap.size+1+1<W0.heap.size by omega))).trans (F j);have L:=B 0;have K:=B 1;have h:w.heap.size+1+1<g.heap.size:=by have:=c.size;rw [A] at this;omega
 clear B F x C N i l m s p c;by_cases M:18446744073709551616≤r.width+o.width
 ·have J:zfF low r o=anyR:=by unfold zfF;rw [if_pos (.inl M)]
  have hr1:r.width<18446744073709551616:=by unfold Rg.width;omega
  have ho1:o.width<18446744073709551616:=by unfold Rg.width;omega
  have G:(r.width+o.width)/18446744073709551616=1:=by omega
  rw [G];generalize (r.width+o.width)%18446744073709551616=S;have f:=zi9 g;go_wp2_with(go_at_call 238;(with_reducible refine f.mono ?_);rintro e u ⟨rfl,b⟩;have q:=zap b y;have n:=zap b v;have Q:u.frozen? ⟨w.heap.size+1+1,0,none⟩=false:=(World.frozen?_of_block (w:=g) (a:=⟨w.heap.size+1+1,0,none⟩) (b.block _ h)).trans L;have P:u.frozen? ⟨w.heap.size+1+1,1,none⟩=false:=(World.frozen?_of_block (w:=g) (a:=⟨w.heap.size+1+1,1,none⟩) (b.block _ h)).trans K)
  exact zbK (r:=anyR) Tryz.results235 rfl rfl (zay q n).1 (zay q n).2 ⟨by rw [J],za4 (d.trans (b.mono d.size)) (by omega)⟩
 ·have G:(r.width+o.width)/18446744073709551616=0:=by omega
  have O:(r.width+o.width)%18446744073709551616=r.width+o.width:=by omega
  rw [G,O];generalize hS:r.width+o.width=S at M G O;have hS0:0≤S:=by omega
  have hcv:IntKind.i64.wrap S=w64 S:=zkK S;have k:wrap64 (low+w64 S)=w64 (low+S):=by
   rw [zc9];have:=zi7 S;exact zmp (by omega)
  by_cases t:wrap64 (low+w64 S)<low
  ·have J:zfF low r o=anyR:=by unfold zfF;rw [if_pos (.inr (by rw [hS,←k];exact t))]
   have f:=zi9 g;go_wp2_with(go_at_call 238;(with_reducible refine f.mono ?_);rintro e u ⟨rfl,b⟩;have q:=zap b y;have n:=zap b v;have Q:u.frozen? ⟨w.heap.size+1+1,0,none⟩=false:=(World.frozen?_of_block (w:=g) (a:=⟨w.heap.size+1+1,0,none⟩) (b.block _ h)).trans L;have P:u.frozen? ⟨w.heap.size+1+1,1,none⟩=false:=(World.frozen?_of_block (w:=g) (a:=⟨w.heap.size+1+1,1,none⟩) (b.block _ h)).trans K)
   exact zbK (r:=anyR) Tryz.results235 rfl rfl (zay q n).1 (zay q n).2 ⟨by first|rfl|rw [J],za4 (d.trans (b.mono d.size)) (by omega)⟩
  ·have J:zfF low r o=⟨low,wrap64 (low+w64 S)⟩:=by
    unfold zfF;rw [hS,if_neg (by rw [←k];omega),←k]
   have hbd:=zcz low (wrap64 (low+w64 S));have hlt2:low≤wrap64 (low+w64 S):=by omega
   have hlt3:decide (wrap64 (low+w64 S)<low)=false:=by simpa using t
   clear k;go_wp2;exact zbK (r:=⟨low,wrap64 (low+w64 S)⟩) Tryz.results235 rfl rfl (zay y v).1 (zay y v).2 ⟨by first|rfl|rw [J],za4 d (by omega)⟩
def zdR(w:World)(_l _r:Rg)(q:Option (Rg × Rg)):Ending→World→Prop:=fun e w'=>qB w w'∧match q with
 | none=>∃ a b,e=.returned (.tuple #[rv a,rv b,.bool false])
 | some (a,b)=>e=.returned (.tuple #[rv a,rv b,.bool true])
theorem znR{fn:Func}{a b c:Tmp}{t:TypeId}(h:fn.results=#[.cell a t,.cell b t,.tmp c])(tmps:Array Value)(p q:Addr)(hp:tmps.getD a undef=.pointer (some p))(hq:tmps.getD b undef=.pointer (some q)){P:Program}{w:World}{u v:Value}(hl:(loadVar t p).run P w=.ok u w)(hm:(loadVar t q).run P w=.ok v w):(results fn tmps).run P w=.ok (.tuple #[u,v,tmps.getD c undef]) w:=by
 have d:tmps[a]?.getD undef=.pointer (some p):=by simpa using hp
 have e:tmps[b]?.getD undef=.pointer (some q):=by simpa using hq
 simp [results,h,d,e,asAddr,hl,hm]
theorem zdS{fn:Func}{a b c:Tmp}{Q:Ending→World→Prop}{X:World}{act:Act}{p q:Nat}{l r:Rg}{x:Bool}(hr:fn.results=#[.cell a 213,.cell b 213,.tmp c])(hp:act.tmps.getD a undef=.pointer (some ⟨p,0,none⟩))(hq:act.tmps.getD b undef=.pointer (some ⟨q,0,none⟩))(hc:act.tmps.getD c undef=.bool x)(hd:act.defers=[])
  (h0:X.cell? ⟨p,0,none⟩=some (.int .i64 l.lo)) (h1:X.cell? ⟨p,1,none⟩=some (.int .i64 l.hi)) (h2:X.cell? ⟨q,0,none⟩=some (.int .i64 r.lo)) (h3:X.cell? ⟨q,1,none⟩=some (.int .i64 r.hi)) (hQ:Q (.returned (.tuple #[rv l,rv r,.bool x])) X):bodyPost Tryz.prog fn Q .ret act X:=by
 have h:=znR hr act.tmps ⟨p,0,none⟩ ⟨q,0,none⟩ hp hq (znP h0 h1) (znP h2 h3);rw [hc] at h;exact bodyPost_ret h hd hQ
theorem zaA(w:World)(a b c:Obj)(cs:Array Value)(t:TypeId)(j:Nat):((((w.alloc a).alloc b).alloc c).alloc (.cells cs t)).cell? ⟨w.heap.size+1+1+1,j,none⟩=cs[j]?:=by
 have h:=World.cell?_alloc_new (w:=((w.alloc a).alloc b).alloc c) cs t j;rw [show(((w.alloc a).alloc b).alloc c).heap.size=w.heap.size+1+1+1 by simp] at h;exact h
theorem zaL(w:World)(a b d:Obj)(cs:Array Value)(t:TypeId)(j:Nat):((((w.alloc a).alloc b).alloc (.cells cs t)).alloc d).cell? ⟨w.heap.size+1+1,j,none⟩=cs[j]?:=by
 rw [←zaG w a b cs t j];exact World.cell?_of_block (w:=((w.alloc a).alloc b).alloc (.cells cs t)) (((Below.refl (((w.alloc a).alloc b).alloc (.cells cs t)).heap.size (((w.alloc a).alloc b).alloc (.cells cs t))).alloc (Nat.le_refl _) d).block (w.heap.size+1+1) (by simp))
theorem zgs(w:World)(a b c d:Obj)(x y:Int):(((((w.alloc a).alloc b).alloc c).alloc d).alloc (.cells #[.int .i64 x,.int .i64 y] 213)).cell? ⟨w.heap.size+1+1+1+1,0,none⟩=some (.int .i64 x)∧(((((w.alloc a).alloc b).alloc c).alloc d).alloc (.cells #[.int .i64 x,.int .i64 y] 213)).cell? ⟨w.heap.size+1+1+1+1,1,none⟩=some (.int .i64 y):=by
 have h:=fun j=>World.cell?_alloc_new (w:=(((w.alloc a).alloc b).alloc c).alloc d) #[.int .i64 x,.int .i64 y] 213 j;rw [show((((w.alloc a).alloc b).alloc c).alloc d).heap.size=w.heap.size+1+1+1+1 by simp] at h;exact⟨h 0,h 1⟩
theorem zbL{w:World}{a b c d:Obj}:qB w ((((w.alloc a).alloc b).alloc c).alloc d):=zaO.alloc (by simp;omega) _
theorem zeS(w:World)(l r:Rg)(c d:Obj):
  ((((w.alloc (.cells #[.int .i64 l.lo,.int .i64 l.hi] 213)).alloc (.cells #[.int .i64 r.lo,.int .i64 r.hi] 213)).alloc c).alloc d).cell? ⟨w.heap.size,0,none⟩=some (.int .i64 l.lo)∧((((w.alloc (.cells #[.int .i64 l.lo,.int .i64 l.hi] 213)).alloc (.cells #[.int .i64 r.lo,.int .i64 r.hi] 213)).alloc c).alloc d).cell? ⟨w.heap.size,1,none⟩=some (.int .i64 l.hi) ∧
  ((((w.alloc (.cells #[.int .i64 l.lo,.int .i64 l.hi] 213)).alloc (.cells #[.int .i64 r.lo,.int .i64 r.hi] 213)).alloc c).alloc d).cell? ⟨w.heap.size+1,0,none⟩=some (.int .i64 r.lo)∧((((w.alloc (.cells #[.int .i64 l.lo,.int .i64 l.hi] 213)).alloc (.cells #[.int .i64 r.lo,.int .i64 r.hi] 213)).alloc c).alloc d).cell? ⟨w.heap.size+1,1,none⟩=some (.int .i64 r.hi) :=
 zcg box1 ⟨zbr _ _ _ _ _ 0,zbr _ _ _ _ _ 1,zcM _ _ _ _ _ 0,zcM _ _ _ _ _ 1⟩
theorem zwC(l r:Rg)(w:World)(hl:l.Ok)(hr:r.Ok):qC 271 #[rv l,rv r] w (zdR w l r (zeQ l r)):=by
 unfold Rg.Ok i64 at hl hr;by_cases h:r.hi≤l.lo
 ·have e:zeQ l r=none:=by unfold zeQ;rw [if_pos h]
  rw [e];go_enter Tryz.func271,Tryz.ntmps271;go_wp2
  go_region
  all_goals go_wp2
  all_goals exact zdS Tryz.results271 rfl rfl rfl rfl (zaL _ _ _ _ _ _ 0) (zaL _ _ _ _ _ _ 1) (zaA _ _ _ _ _ _ 0) (zaA _ _ _ _ _ _ 1) ⟨zbL.drew,_,_,rfl⟩
 ·have e:zeQ l r=some (⟨l.lo,min l.hi (r.hi-1)⟩,⟨max (l.lo+1) r.lo,r.hi⟩):=by unfold zeQ;rw [if_neg h]
  rw [e];have hb1:=zcz l.lo (min l.hi (r.hi-1));have hb2:=zcz (max (l.lo+1) r.lo) r.hi;have f:l.lo+1≤9223372036854775807:=by omega
  have d:-9223372036854775808≤l.lo+1:=by omega
  have a:r.hi-1≤9223372036854775807:=by omega
  have c:-9223372036854775808≤r.hi-1:=by omega
  have w1:IntKind.i64.wrap (r.hi-1)=r.hi-1:=by rw [zkK];exact zgq ⟨c,a⟩
  have w2:IntKind.i64.wrap (l.lo+1)=l.lo+1:=by rw [zkK];exact zgq ⟨d,f⟩
  have b:=zeS w l r (.cells #[.int .i64 0,.int .i64 0] 213) (.cells #[.int .i64 0,.int .i64 0] 213);go_enter Tryz.func271,Tryz.ntmps271;go_wp2;go_region_held3 (fun W=>W.cell? ⟨w.heap.size,0,none⟩=some (.int .i64 l.lo)∧W.cell? ⟨w.heap.size,1,none⟩=some (.int .i64 l.hi)∧W.cell? ⟨w.heap.size+1,0,none⟩=some (.int .i64 r.lo)∧W.cell? ⟨w.heap.size+1,1,none⟩=some (.int .i64 r.hi))
   (first|exact b|go_keep)
   (fail)
  all_goals go_wp2
  all_goals exact zdS (l:=⟨l.lo,min l.hi (r.hi-1)⟩) (r:=⟨max (l.lo+1) r.lo,r.hi⟩) Tryz.results271 rfl rfl rfl rfl (zaL _ _ _ _ _ _ 0) (zaL _ _ _ _ _ _ 1) (zaA _ _ _ _ _ _ 0) (zaA _ _ _ _ _ _ 1) ⟨zbL.drew,rfl⟩
theorem znS(l r:Rg)(w:World):qC 272 #[rv l,rv r] w (zdR w l r (zb4 l r)):=by
 by_cases h:l.hi<r.lo
 ·have b:zb4 l r=none:=by unfold zb4;rw [if_pos h]
  rw [b];go_enter Tryz.func272,Tryz.ntmps272;go_wp2
  go_region
  all_goals go_wp2
  all_goals exact zdS Tryz.results272 rfl rfl rfl rfl (zaL _ _ _ _ _ _ 0) (zaL _ _ _ _ _ _ 1) (zaA _ _ _ _ _ _ 0) (zaA _ _ _ _ _ _ 1) ⟨zbL.drew,_,_,rfl⟩
 ·have b:zb4 l r=some (⟨max l.lo r.lo,l.hi⟩,⟨r.lo,min l.hi r.hi⟩):=by unfold zb4;rw [if_neg h]
  rw [b];have hb1:=zcz (max l.lo r.lo) l.hi;have hb2:=zcz r.lo (min l.hi r.hi);have a:=zeS w l r (.cells #[.int .i64 0,.int .i64 0] 213) (.cells #[.int .i64 0,.int .i64 0] 213);go_enter Tryz.func272,Tryz.ntmps272;go_wp2;go_region_held3 (fun W=>W.cell? ⟨w.heap.size,0,none⟩=some (.int .i64 l.lo)∧W.cell? ⟨w.heap.size,1,none⟩=some (.int .i64 l.hi)∧W.cell? ⟨w.heap.size+1,0,none⟩=some (.int .i64 r.lo)∧W.cell? ⟨w.heap.size+1,1,none⟩=some (.int .i64 r.hi))
   (first|exact a|go_keep)
   (fail)
  all_goals go_wp2
  all_goals exact zdS (l:=⟨max l.lo r.lo,l.hi⟩) (r:=⟨r.lo,min l.hi r.hi⟩) Tryz.results272 rfl rfl rfl rfl (zaL _ _ _ _ _ _ 0) (zaL _ _ _ _ _ _ 1) (zaA _ _ _ _ _ _ 0) (zaA _ _ _ _ _ _ 1) ⟨zbL.drew,rfl⟩
end
end Go.Proofs.YtfpgjkbjbbgciaaGreatDoor
