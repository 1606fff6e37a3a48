import Derived.Test.YtfpgjkbjbbgciaaGreatDoorMj04
import Derived.Deep.MidRow
import Derived.Laws.Small
import Derived.Great.Ranges
import Derived.Laws.Tables
import Derived.Laws.Externs
import Derived.Deep.RegionWith
import Derived.ArgAppend
import Derived.Deep.RegionLawGrows
import Derived.Lib.SliceRun
set_option maxRecDepth 100000
set_option maxHeartbeats 8000000
namespace Go.Proofs.YtfpgjkbjbbgciaaGreatDoor
section
open Go.RowKit Sp
structure LinesIn(w:World)(g:Nat)(L:List Said):Prop where
 kind:∀ i (h:i<L.length),w.cell? ⟨g,i*2,none⟩=some (.int .u8 L[i].kind)
 words:∀ i (h:i<L.length),0<L[i].kept.length→∃ b c,w.cell? ⟨g,i*2+1,none⟩=some (.slice (some ⟨b,0,none⟩) L[i].kept.length c)∧∀ j (hj:j<L[i].kept.length),w.cell? ⟨b,j,none⟩=some (.string L[i].kept[j])
 wf:∀ i (h:i<L.length),Wf L[i]
theorem zdO{q:Said}(h:Wf q):0≤q.kind∧q.kind≤255:=by unfold Wf at h;omega
theorem zs2(L:List Said)(g cap k:Nat)(w:World)(hL:LinesIn w g L)(hn:L.length≤1048577)(hk:k<L.length):
  qC 107 #[.slice (some ⟨g,0,none⟩) L.length cap,.int .i64 (k:Int)] w fun e w'=>e=.returned (.int .i64 (zcw L k))∧w'=w:=by
 go_enter Tryz.func107,Tryz.ntmps107;go_wp2
 go_loop [1] (fun t=>∃ j:Nat,j≤k+1∧t=.int .i64 ((j:Int)-1)∧(j=0∧zcw L k=-1∨1≤j∧zcw L k=zcw L (j-1))) (fun t=>(intOf t+1).toNat)
 case atStart=>exact⟨k+1,by omega,by go_num,.inr ⟨by omega,rfl⟩⟩
 case round =>
  obtain⟨j,hj,rfl,d⟩:=hrel;have b:Hid (j=0∧zcw L k=-1∨1≤j∧zcw L k=zcw L (j-1)):=d;clear d;by_cases i:j=0
  ·have c:Hid (zcw L k=-1):=by rcases b.out with h|h;exact h.2;omega
   subst i;go_wp2;go_ret;exact⟨zch (by rw [c.out]),rfl⟩
  ·obtain⟨m,rfl⟩:∃ m,j=m+1:=⟨j-1,by omega⟩
   have c:Hid (zcw L k=zcw L m):=by rcases b.out with h|h;omega;exact h.2
   clear b;have a:m<L.length:=by omega
   have hc:=hL.kind m a;have hb:=zdO (hL.wf m a);have ec:((m+1:Nat):Int)-1=(m:Int):=by omega
   rw [ec];cases h102:(L[m].kind != 102) with
   | false =>
    have l:Hid (zcw L m=m):=zfX L m a (by simpa using h102);go_wp2;go_ret;exact⟨zch (by rw [c.out,l.out]),rfl⟩
   | true =>
    go_wp2
    go_round
    case rel =>
     refine⟨m,by omega,rfl,?_⟩;cases m with
     | zero=>exact .inl ⟨rfl,c.out.trans (zqc L a (by simpa using h102))⟩
     | succ m=>exact .inr ⟨by omega,c.out.trans (zdY L m a (by simpa using h102))⟩
    case measure=>simp [intOf]
theorem zcR(q:Said)(i:Nat)(h:i<q.kept.length):q.word i=q.kept[i]:=by
 unfold Said.word;rw [List.getElem?_eq_getElem h];rfl
theorem wf_f{q:Said}(h:Wf q)(h':(q.kind == 102)=true):q.kept.length=2:=by
 rw [beq_iff_eq] at h';unfold Wf at h;omega
theorem wf_l{q:Said}(h:Wf q)(h':(q.kind == 108)=true):q.kept.length=1:=by
 rw [beq_iff_eq] at h';unfold Wf at h;omega
theorem wf_i{q:Said}(h:Wf q)(h':(q.kind == 105)=true):1≤q.kept.length∧q.kept.length≤4:=by
 rw [beq_iff_eq] at h';unfold Wf at h;omega
theorem zx9(q:Said)(x:ByteArray)(h:(q.kind == 102)=false):isFn q x=false:=by
 simp at h;simp [isFn,h]
theorem zxA(q:Said)(x:ByteArray)(h:(q.kind == 102)=true):isFn q x=eqW (q.word 1) x:=by
 simp at h;simp [isFn,h]
theorem zv3(q:Said)(x:ByteArray)(h:(q.kind == 108)=false):zdc q x=false:=by
 simp at h;simp [zdc,h]
theorem zv4(q:Said)(x:ByteArray)(h:(q.kind == 108)=true):zdc q x=eqW (q.word 0) x:=by
 simp at h;simp [zdc,h]
theorem zo9(L:List Said)(g cap:Nat)(x:ByteArray)(w:World)(hL:LinesIn w g L)(hn:L.length≤1048577):
  qC 77 #[.slice (some ⟨g,0,none⟩) L.length cap,.string x] w fun e w'=>e=.returned (.int .i64 (zaN L x 0))∧w'=w:=by
 go_enter Tryz.func77,Tryz.ntmps77;go_wp2
 go_loop [5] (fun t=>∃ j:Nat,j≤L.length∧t=.int .i64 (j:Int)∧zaN L x 0=zaN L x j) (fun t=>L.length-(intOf t).toNat)
 case atStart=>exact⟨0,by omega,rfl,rfl⟩
 case round =>
  obtain⟨j,hj,rfl,m⟩:=hrel;have k:Hid (zaN L x 0=zaN L x j):=m;clear m;by_cases a:j<L.length
  ·have hc:=hL.kind j a;have hb:=zdO (hL.wf j a);cases h102:(L[j].kind == 102) with
   | false =>
    have i:Hid (zaN L x 0=zaN L x (j+1)):=k.out.trans (zdr L x j a (zx9 _ x h102));go_wp2
    go_round
    case rel=>exact⟨j+1,by omega,by go_num,i.out⟩
    case measure=>simp [intOf];omega
   | true =>
    have h2:=wf_f (hL.wf j a) h102;have d:1<L[j].kept.length:=by omega
    obtain⟨b,c,n,h⟩:=hL.words j a (by omega);have hw1:=h 1 d;clear h;have f:=zxA L[j] x h102;rw [zcR _ 1 d] at f;have l:Hid (isFn L[j] x=eqW (L[j].kept[1]) x):=f;clear f;rw [h2] at n;cases heq:((L[j].kept[1]'d).toList == x.toList) with
    | true =>
     have i:Hid (zaN L x 0=j):=k.out.trans (zd4 L x j a (l.out.trans heq));go_wp2;go_ret;exact⟨zch (by rw [i.out]),rfl⟩
    | false =>
     have i:Hid (zaN L x 0=zaN L x (j+1)):=k.out.trans (zdr L x j a (l.out.trans heq));go_wp2
     go_round
     case rel=>exact⟨j+1,by omega,by go_num,i.out⟩
     case measure=>simp [intOf];omega
  ·have i:Hid (zaN L x 0=-1):=k.out.trans (zfc L x j a);go_wp2;go_ret;exact⟨zch (by rw [i.out]),rfl⟩
theorem zf3(L:List Said)(g cap k:Nat)(x:ByteArray)(w:World)(hL:LinesIn w g L)(hn:L.length≤1048577)(hk:k<L.length):
  qC 78 #[.slice (some ⟨g,0,none⟩) L.length cap,.int .i64 (k:Int),.string x] w fun e w'=>e=.returned (.int .i64 (zcj L k x))∧w'=w:=by
 have ho:=zv2 L k;obtain⟨m,s⟩:∃ m:Nat,zcw L k+1=(m:Int):=⟨(zcw L k+1).toNat,by omega⟩
 have v:Hid (zcw L k+1=(m:Int)):=s;have q:Hid (zcj L k x=zaY L x m):=by unfold Hid zcj;rw [s];rfl
 have p:m≤L.length:=by omega
 go_enter Tryz.func78,Tryz.ntmps78;go_wp2_with(go_at_call 107;refine(zs2 L g cap k _ hL hn hk).mono ?_;rintro e w' ⟨rfl,rfl⟩)
 go_loop [7] (fun t=>∃ j:Nat,j≤L.length∧t=.int .i64 (j:Int)∧zcj L k x=zaY L x j) (fun t=>L.length-(intOf t).toNat)
 case atStart=>exact⟨m,p,by first|rfl|rw [v.out],q.out⟩
 case round =>
  obtain⟨j,hj,rfl,u⟩:=hrel;have l:Hid (zcj L k x=zaY L x j):=u;clear u s q v;by_cases a:j<L.length
  ·have hc:=hL.kind j a;have hb:=zdO (hL.wf j a);cases h102:(L[j].kind != 102) with
   | false =>
    have i:Hid (zcj L k x=-1):=l.out.trans (zfW L x j a (by simpa using h102));go_wp2;go_ret;exact⟨zch (by rw [i.out]),rfl⟩
   | true =>
    have o:¬L[j].kind=102:=by simpa using h102
    have f:Hid (¬L[j].kind=102):=o;clear o;cases h108:(L[j].kind == 108) with
    | false =>
     have i:Hid (zcj L k x=zaY L x (j+1)):=l.out.trans (zcd L x j a f.out (zv3 _ x h108));go_wp2
     go_round
     case rel=>exact⟨j+1,by omega,by go_num,i.out⟩
     case measure=>simp [intOf];omega
    | true =>
     have h2:=wf_l (hL.wf j a) h108;have d:0<L[j].kept.length:=by omega
     obtain⟨b,c,y,n⟩:=hL.words j a (by omega);have hw1:=n 0 d;clear n;have h:=zv4 L[j] x h108;rw [zcR _ 0 d] at h;have r:Hid (zdc L[j] x=eqW (L[j].kept[0]) x):=h;clear h;rw [h2] at y;cases heq:((L[j].kept[0]'d).toList == x.toList) with
     | true =>
      have i:Hid (zcj L k x=j):=l.out.trans (zdd L x j a f.out (r.out.trans heq));go_wp2;go_ret;exact⟨zch (by rw [i.out]),rfl⟩
     | false =>
      have i:Hid (zcj L k x=zaY L x (j+1)):=l.out.trans (zcd L x j a f.out (r.out.trans heq));go_wp2
      go_round
      case rel=>exact⟨j+1,by omega,by go_num,i.out⟩
      case measure=>simp [intOf];omega
  ·have i:Hid (zcj L k x=-1):=l.out.trans (zeo L x j a);go_wp2;go_ret;exact⟨zch (by rw [i.out]),rfl⟩
end
namespace Sp
theorem zno(s:ByteArray)(a b c:Nat)(h1:a≤b)(h2:b≤c):s.extract a b++s.extract b c=s.extract a c:=by
 apply ByteArray.ext;rw [ByteArray.data_append,ByteArray.data_extract,ByteArray.data_extract,ByteArray.data_extract];rw [Array.extract_append_extract];congr 1 <;> omega
theorem zxF(s:ByteArray)(a:Nat):s.extract a a=ByteArray.empty:=by
 apply ByteArray.ext;rw [ByteArray.data_extract];simp;omega
theorem zs9(s:ByteArray)(n i:Nat)(now:ByteArray)(l:List ByteArray)(hn:i+n≤s.size)(h:∀ j,i≤j→j<i+n→¬(bt s j=32∨bt s j=9∨bt s j=59)):za9 s i now l=za9 s (i+n) (now++s.extract i (i+n)) l:=by
 induction n generalizing i now with
 | zero =>
  rw [Nat.add_zero,zxF];congr 1;simp
 | succ n ih =>
  rw [zfa s i now l (by omega) (h i (by omega) (by omega)),ih (i+1) _ (by omega) (fun j h1 h2=>h j (by omega) (by omega))];rw [show i+1+n=i+(n+1) by omega];congr 1;rw [ByteArray.append_assoc,zno s i (i+1) (i+(n+1)) (by omega) (by omega)]
theorem zf4(s:ByteArray)(k i:Nat)(v u:Int)(h:zbW s i k v=some u):∀ j,i≤j→j<i+k→128≤bt s j:=by
 induction k generalizing i v with
 | zero=>intro j b c;omega
 | succ k ih =>
  unfold zbW at h;split at h
  ·rename_i hc;intro j b c;by_cases a:j=i
   ·subst a;omega
   ·exact ih _ _ h j (by omega) (by omega)
  ·cases h
theorem zib(s:ByteArray)(i:Nat)(hi:i<s.size)(h0:¬(chr s i).1=0):(bt s i<128∧chr s i=(1,bt s i))∨(128≤(chr s i).2∧∀ j,i≤j→j<i+chrN s i→128≤bt s j):=by
 by_cases h:bt s i<128
 ·left;exact⟨h,by unfold chr;rw [if_pos h]⟩
 ·right;unfold chrN;unfold chr at h0 ⊢;rw [if_neg h] at h0 ⊢;split at h0
  ·rename_i hc;rw [if_pos hc];rcases zbX 2 128 (zbW s (i+1) 1 (bt s i-192)) with g|⟨v,c,f,e,_⟩
   ·rw [g] at h0;exact absurd rfl h0
   ·rw [f];refine⟨e,fun j a b=>?_⟩;by_cases d:j=i
    ·subst d;omega
    ·exact zf4 s 1 (i+1) _ _ c j (by omega) (by simp at b;omega)
  ·rename_i hc;rw [if_neg hc];split at h0
   ·rename_i hd;rw [if_pos hd];rcases zbX 3 2048 (zbW s (i+1) 2 (bt s i-224)) with g|⟨v,c,f,e,_⟩
    ·rw [g] at h0;exact absurd rfl h0
    ·rw [f];refine⟨by show 128≤v;omega,fun j a b=>?_⟩;by_cases d:j=i
     ·subst d;omega
     ·exact zf4 s 2 (i+1) _ _ c j (by omega) (by simp at b;omega)
   ·rename_i hd;rw [if_neg hd];split at h0
    ·rename_i he;rw [if_pos he];rcases zbX 4 65536 (zbW s (i+1) 3 (bt s i-240)) with g|⟨v,c,f,e,_⟩
     ·rw [g] at h0;exact absurd rfl h0
     ·rw [f];refine⟨by show 128≤v;omega,fun j a b=>?_⟩;by_cases d:j=i
      ·subst d;omega
      ·exact zf4 s 3 (i+1) _ _ c j (by omega) (by simp at b;omega)
    ·exact absurd rfl h0
theorem zfe(s:ByteArray)(i:Nat)(now:ByteArray)(l:List ByteArray)(hi:i<s.size)(h0:¬(chr s i).1=0)(hc:¬((chr s i).2=32∨(chr s i).2=9∨(chr s i).2=59)):za9 s i now l=za9 s (i+chrN s i) (now++s.extract i (i+chrN s i)) l:=by
 have hp:=zcN s i hi h0;refine zs9 s (chrN s i) i now l (by omega) (fun j h1 h2=>?_);rcases zib s i hi h0 with ⟨ha,a⟩|⟨_,a⟩
 ·have hN:chrN s i=1:=by unfold chrN;rw [a];rfl
  have:j=i:=by omega
  subst this;rw [a] at hc;exact hc
 ·have:=a j h1 h2;omega
theorem zic(s:ByteArray)(i:Nat)(hi:i<s.size)(h0:¬(chr s i).1=0)(hc:(chr s i).2<128):bt s i=(chr s i).2∧chrN s i=1:=by
 rcases zib s i hi h0 with ⟨ha,a⟩|⟨a,_⟩
 ·unfold chrN;rw [a];exact⟨rfl,rfl⟩
 ·omega
def zcS(L:List Said)(k:Nat):Bool :=
 match L[k]? with
 | none=>false
 | some q=>if q.kind=102 then decide (zaN L (q.word 1) 0<k) else if q.kind=108 then decide (zcj L k (q.word 0)<k) else false
def Said.last(q:Said):ByteArray:=q.word (q.kept.length-1)
def zaJ(x:ByteArray):Bool:=isW x [106,117,109,112]||isW x [108,101,115,115]||isW x [115,97,109,101]
def zc2(x:ByteArray):Bool:=isW x [99,97,108,108]
def zaK(L:List Said)(k:Nat):Bool :=
 match L[k]? with
 | none=>false
 | some q=>if q.kind=105 then(if zaJ (q.word 0)=true then decide (zcj L k q.last<0) else if zc2 (q.word 0)=true then decide (zaN L q.last 0<0) else false) else false
def ends(x:ByteArray):Bool:=isW x [106,117,109,112]||isW x [98,97,99,107]||isW x [115,116,111,112]
def zep(L:List Said)(i:Nat)(e:Bool):Bool :=
 if h:i<L.length then
  if L[i].kind=102 then e
  else zep L (i+1) (if L[i].kind=108 then false else if L[i].kind=105 then ends (L[i].word 0) else e)
 else e
termination_by L.length-i
def zbs(L:List Said)(k:Nat):Bool :=
 match L[k]? with
 | none=>false
 | some q=>if q.kind=102 then !zep L (k+1) false else false
theorem zhV(L:List Said)(i:Nat)(e:Bool)(h:¬i<L.length):zep L i e=e:=by rw [zep,dif_neg h]
theorem znk(L:List Said)(i:Nat)(e:Bool)(h:i<L.length)(h':L[i].kind=102):zep L i e=e:=by rw [zep,dif_pos h,if_pos h']
theorem zdI(L:List Said)(i:Nat)(e:Bool)(h:i<L.length)(h':¬L[i].kind=102):zep L i e=zep L (i+1) (if L[i].kind=108 then false else if L[i].kind=105 then ends (L[i].word 0) else e):=by
 conv=>lhs;rw [zep,dif_pos h,if_neg h']
end Sp
section
open Go.RowKit Sp
def SlB(w:World)(b:Nat)(v:Value)(l:List Int):Prop:=∃ ao cap,v=.slice ao l.length cap∧l.length≤cap∧(0<l.length→∃ g o,ao=some ⟨g,o,none⟩∧g<b∧g<w.heap.size∧∀ j (h:j<l.length),w.cell? ⟨g,o+j,none⟩=some (.int .i64 l[j]))
theorem SlB.below{w w':World}{b:Nat}{v:Value}{l:List Int}(h:SlB w b v l)(hb:Below b w w'):SlB w' b v l:=by
 obtain⟨m,c,f,i,n⟩:=h;refine⟨m,c,f,i,fun hp=>?_⟩;obtain⟨g,o,e,d,a,k⟩:=n hp;exact⟨g,o,e,d,Nat.lt_of_lt_of_le a hb.size,fun j hj=>(hb.cell (p:=⟨g,o+j,none⟩) d).trans (k j hj)⟩
end
namespace Sp
end Sp
section
open Go.RowKit Sp
end
end Go.Proofs.YtfpgjkbjbbgciaaGreatDoor
