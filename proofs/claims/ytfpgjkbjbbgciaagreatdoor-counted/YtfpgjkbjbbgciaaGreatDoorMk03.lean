import Derived.Test.YtfpgjkbjbbgciaaGreatDoorMk00
set_option maxRecDepth 100000
set_option maxHeartbeats 8000000
namespace Go.Proofs.YtfpgjkbjbbgciaaGreatDoor
namespace Sp
theorem zks(s:ByteArray)(i k:Nat)(v u:Int)(h:zd5 s i k v=some u):i+k≤s.size∨k=0:=by
 induction k generalizing i v with
 | zero=>exact .inr rfl
 | succ k ih =>
  unfold zd5 at h;split at h
  ·rename_i hc;rcases ih _ _ h with a|a
   ·exact .inl (by omega)
   ·subst a;exact .inl (by omega)
  ·cases h
theorem zbA(n least:Int)(o:Option Int):(zdt n least o=(0,0))∨(∃ v,o=some v∧zdt n least o=(n,v)∧least≤v∧v≤1114111):=by
 cases o with
 | none=>exact .inl rfl
 | some v =>
  by_cases h:v<least∨1114111<v∨(55296≤v∧v≤57343)
  ·exact .inl (if_pos h)
  ·exact .inr ⟨v,rfl,if_neg h,by omega,by omega⟩
theorem zzK(s:ByteArray)(i:Nat)(hi:i<s.size):chr s i=(0,0)∨(1≤(chr s i).1∧(chr s i).1≤4∧i+(chr s i).1≤s.size∧0≤(chr s i).2∧(chr s i).2≤1114111):=by
 have f:=zzI s i;unfold chr;split
 ·exact .inr ⟨by simp,by simp,by simp;omega,by simpa using f.1,by simp;omega⟩
 split
 ·rcases zbA 2 128 (zd5 s (i+1) 1 (bt s i-192)) with h|⟨v,a,c,d,b⟩
  ·exact .inl h
  ·rw [c];rcases zks _ _ _ _ _ a with h|h
   ·exact .inr ⟨by simp,by simp,by simp;omega,by simp;omega,by simpa using b⟩
   ·omega
 split
 ·rcases zbA 3 2048 (zd5 s (i+1) 2 (bt s i-224)) with h|⟨v,a,c,d,b⟩
  ·exact .inl h
  ·rw [c];rcases zks _ _ _ _ _ a with h|h
   ·exact .inr ⟨by simp,by simp,by simp;omega,by simp;omega,by simpa using b⟩
   ·omega
 split
 ·rcases zbA 4 65536 (zd5 s (i+1) 3 (bt s i-240)) with h|⟨v,a,c,d,b⟩
  ·exact .inl h
  ·rw [c];rcases zks _ _ _ _ _ a with h|h
   ·exact .inr ⟨by simp,by simp,by simp;omega,by simp;omega,by simpa using b⟩
   ·omega
 ·exact .inl rfl
def chrN(s:ByteArray)(i:Nat):Nat:=(chr s i).1.toNat
theorem zcW(s:ByteArray)(i:Nat)(hi:i<s.size)(h:¬(chr s i).1=0):((chrN s i:Nat):Int)=(chr s i).1∧1≤chrN s i∧chrN s i≤4∧i+chrN s i≤s.size∧0≤(chr s i).2∧(chr s i).2≤1114111:=by
 rcases zzK s i hi with h'|h'
 ·rw [h'] at h;simp at h
 ·unfold chrN;omega
def zaz(s:ByteArray)(i:Nat):Bool :=
 if _hi:i<s.size then
  if _h:(chr s i).1=0 then false else zaz s (i+chrN s i)
 else true
termination_by s.size-i
decreasing_by have:=zcW s i _hi _h;omega
theorem zhK(s:ByteArray)(i:Nat)(h:¬i<s.size):zaz s i=true:=by
 rw [zaz,dif_neg h]
theorem znm(s:ByteArray)(i:Nat)(h:i<s.size)(h0:(chr s i).1=0):zaz s i=false:=by
 rw [zaz,dif_pos h,dif_pos h0]
theorem zgS(s:ByteArray)(i:Nat)(h:i<s.size)(h0:¬(chr s i).1=0):zaz s i=zaz s (i+chrN s i):=by
 rw [zaz,dif_pos h,dif_neg h0]
def zcT(c:Int):Bool:=decide (97≤c∧c≤122∨c=95∨945≤c∧c≤969)
def zbe(c:Int):Bool:=decide (48≤c∧c≤57)
def zcJ(s:ByteArray)(i:Nat)(c:Nat):Option Nat :=
 if hi:i<s.size then
  if h:(chr s i).1=0 then none
  else if zcT (chr s i).2=true∨(zbe (chr s i).2=true∧¬i=0) then zcJ s (i+chrN s i) (c+1) else none
 else some c
termination_by s.size-i
decreasing_by have:=zcW s i hi h;omega
def zde:Option Nat→Bool
 | none=>false
 | some c=>decide (1≤c∧c≤12)
def za6(s:ByteArray):Bool:=zde (zcJ s 0 0)
theorem zjB(s:ByteArray)(i c:Nat)(h:¬i<s.size):zcJ s i c=some c:=by
 rw [zcJ,dif_neg h]
theorem zqd(s:ByteArray)(i c:Nat)(h:i<s.size)(h0:(chr s i).1=0):zcJ s i c=none:=by
 rw [zcJ,dif_pos h,dif_pos h0]
theorem zff(s:ByteArray)(i c:Nat)(h:i<s.size)(h0:¬(chr s i).1=0)(h1:zcT (chr s i).2=true∨(zbe (chr s i).2=true∧¬i=0)):zcJ s i c=zcJ s (i+chrN s i) (c+1):=by
 rw [zcJ,dif_pos h,dif_neg h0,if_pos h1]
theorem zjC(s:ByteArray)(i c:Nat)(h:i<s.size)(h0:¬(chr s i).1=0)(h1:¬(zcT (chr s i).2=true∨(zbe (chr s i).2=true∧¬i=0))):zcJ s i c=none:=by
 rw [zcJ,dif_pos h,dif_neg h0,if_neg h1]
end Sp
section
open Go.RowKit Sp
theorem zno(c:Nat)(h:1≤c):decide ((c:Int)≤12)=zde (some c):=by
 unfold zde;by_cases a:c≤12
 ·simp [h,a];omega
 ·simp [a];omega
theorem zqe(c:Nat)(h:¬1≤c):false=zde (some c):=by
 unfold zde;simp;omega
theorem zaB(s:ByteArray)(l:List UInt8)(h:(s.toList == l)=true):s=⟨l.toArray⟩:=by
 rw [beq_iff_eq,ByteArray.toList_eq] at h;rw [←h]
end
namespace Sp
def isW(s:ByteArray)(l:List UInt8):Bool:=s.toList == l
def zaa(s:ByteArray):List UInt8 :=
 if isW s [115,101,116]||isW s [105,110,99] then [82,75] else
 if isW s [109,111,118]||isW s [108,111,97,100]||isW s [115,116,111,114,101] then [82,82] else
 if isW s [97,100,100]||isW s [115,117,98]||isW s [109,117,108] then [82,82,82] else
 if isW s [114,101,97,100]||isW s [119,114,105,116,101] then [82] else
 if isW s [106,117,109,112]||isW s [99,97,108,108] then [78] else
 if isW s [108,101,115,115]||isW s [115,97,109,101] then [82,82,78] else
 if isW s [98,97,99,107]||isW s [115,116,111,112] then [] else
 [63]
theorem zoY(s:ByteArray)(j:Nat):bt s j=((s.get! j).toNat:Int):=by
 unfold bt ByteArray.get!;cases h:s.data[j]? with
 | none =>
  have:¬j<s.data.size:=by
   intro a;rw [Array.getElem?_eq_getElem a] at h;cases h
  simp [getElem!_def,h];rfl
 | some v=>simp [getElem!_def,h]
def chrB(i z:Nat)(b0 b1 b2 b3:Int):Int × Int :=
 if b0<128 then(1,b0)
 else if 194≤b0∧b0<224 then zdt 2 128 (if i+1<z∧128≤b1∧b1≤191 then some (64*(b0-192)+b1-128) else none)
 else if 224≤b0∧b0<240 then zdt 3 2048 (if i+1<z∧128≤b1∧b1≤191 then(if i+1+1<z∧128≤b2∧b2≤191 then some (64*(64*(b0-224)+b1-128)+b2-128) else none) else none)
 else if 240≤b0∧b0<245 then zdt 4 65536 (if i+1<z∧128≤b1∧b1≤191 then(if i+1+1<z∧128≤b2∧b2≤191 then(if i+1+1+1<z∧128≤b3∧b3≤191 then some (64*(64*(64*(b0-240)+b1-128)+b2-128)+b3-128) else none) else none) else none)
 else(0,0)
theorem zA6(s:ByteArray)(i:Nat):chr s i=chrB i s.size (bt s i) (bt s (i+1)) (bt s (i+2)) (bt s (i+3)):=rfl
theorem decB(i z b0 b1 b2 b3:Nat)(h0:b0<256)(h1:b1<256)(h2:b2<256)(h3:b3<256):
  ((chrB i z b0 b1 b2 b3).1=0→Lib.decodeN (z-i) b0 b1 b2 b3=(65533,1))∧(¬(chrB i z b0 b1 b2 b3).1=0→Lib.decodeN (z-i) b0 b1 b2 b3=((chrB i z b0 b1 b2 b3).2.toNat,(chrB i z b0 b1 b2 b3).1.toNat)):=by
 unfold chrB;split
 ·refine⟨fun h=>absurd h (by simp),fun _=>?_⟩;unfold Lib.decodeN;rw [if_pos (by omega)];exact Prod.ext (by simp) rfl
 split
 ·split
  ·by_cases a:64*((b0:Int)-192)+b1-128<128∨1114111<64*((b0:Int)-192)+b1-128∨(55296≤64*((b0:Int)-192)+b1-128∧64*((b0:Int)-192)+b1-128≤57343)
   ·rw [zdt,if_pos a];refine⟨fun _=>?_,fun h=>absurd rfl h⟩;unfold Lib.decodeN
    repeat' split
    all_goals first|rfl|(exfalso;omega)
   ·rw [zdt,if_neg a];refine⟨fun h=>absurd h (by simp),fun _=>?_⟩;unfold Lib.decodeN
    repeat' split
    all_goals first|(exfalso;omega)|(apply Prod.ext <;> simp only <;> omega)
  ·refine⟨fun _=>?_,fun h=>absurd rfl h⟩;unfold Lib.decodeN
   repeat' split
   all_goals first|rfl|(exfalso;omega)
 split
 ·split
  ·split
   ·by_cases a:64*(64*((b0:Int)-224)+b1-128)+b2-128<2048∨1114111<64*(64*((b0:Int)-224)+b1-128)+b2-128∨(55296≤64*(64*((b0:Int)-224)+b1-128)+b2-128∧64*(64*((b0:Int)-224)+b1-128)+b2-128≤57343)
    ·rw [zdt,if_pos a];refine⟨fun _=>?_,fun h=>absurd rfl h⟩;unfold Lib.decodeN
     repeat' split
     all_goals first|rfl|(exfalso;omega)
    ·rw [zdt,if_neg a];refine⟨fun h=>absurd h (by simp),fun _=>?_⟩;unfold Lib.decodeN
     repeat' split
     all_goals first|(exfalso;omega)|(apply Prod.ext <;> simp only <;> omega)
   ·refine⟨fun _=>?_,fun h=>absurd rfl h⟩;unfold Lib.decodeN
    repeat' split
    all_goals first|rfl|(exfalso;omega)
  ·refine⟨fun _=>?_,fun h=>absurd rfl h⟩;unfold Lib.decodeN
   repeat' split
   all_goals first|rfl|(exfalso;omega)
 split
 ·split
  ·split
   ·split
    ·by_cases a:64*(64*(64*((b0:Int)-240)+b1-128)+b2-128)+b3-128<65536∨1114111<64*(64*(64*((b0:Int)-240)+b1-128)+b2-128)+b3-128∨(55296≤64*(64*(64*((b0:Int)-240)+b1-128)+b2-128)+b3-128∧64*(64*(64*((b0:Int)-240)+b1-128)+b2-128)+b3-128≤57343)
     ·rw [zdt,if_pos a];refine⟨fun _=>?_,fun h=>absurd rfl h⟩;unfold Lib.decodeN
      repeat' split
      all_goals first|rfl|(exfalso;omega)
     ·rw [zdt,if_neg a];refine⟨fun h=>absurd h (by simp),fun _=>?_⟩;unfold Lib.decodeN
      repeat' split
      all_goals first|(exfalso;omega)|(apply Prod.ext <;> simp only <;> omega)
    ·refine⟨fun _=>?_,fun h=>absurd rfl h⟩;unfold Lib.decodeN
     repeat' split
     all_goals first|rfl|(exfalso;omega)
   ·refine⟨fun _=>?_,fun h=>absurd rfl h⟩;unfold Lib.decodeN
    repeat' split
    all_goals first|rfl|(exfalso;omega)
  ·refine⟨fun _=>?_,fun h=>absurd rfl h⟩;unfold Lib.decodeN
   repeat' split
   all_goals first|rfl|(exfalso;omega)
 ·refine⟨fun _=>?_,fun h=>absurd rfl h⟩;unfold Lib.decodeN
  repeat' split
  all_goals first|rfl|(exfalso;omega)
theorem zgo(s:ByteArray)(i:Nat):((chr s i).1=0→Utf8.decode s i=(65533,1))∧(¬(chr s i).1=0→Utf8.decode s i=((chr s i).2.toNat,(chr s i).1.toNat)):=by
 rw [zA6,Lib.decode_at,zoY s i,zoY s (i+1),zoY s (i+2),zoY s (i+3)];exact decB i s.size _ _ _ _ (s.get! i).toNat_lt (s.get! (i+1)).toNat_lt (s.get! (i+2)).toNat_lt (s.get! (i+3)).toNat_lt
def zbK(s:ByteArray)(from0 i:Nat):List ByteArray :=
 if i<s.size then
  if bt s i=10 then s.extract from0 i :: zbK s (i+1) (i+1) else zbK s from0 (i+1)
 else [s.extract from0 s.size]
termination_by s.size-i
theorem zfg(s:ByteArray)(from0 i:Nat)(h:¬i<s.size):zbK s from0 i=[s.extract from0 s.size]:=by
 rw [zbK,if_neg h]
theorem zfh(s:ByteArray)(from0 i:Nat)(h:i<s.size)(h':bt s i=10):zbK s from0 i=s.extract from0 i :: zbK s (i+1) (i+1):=by
 rw [zbK,if_pos h,if_pos h']
theorem zgp(s:ByteArray)(from0 i:Nat)(h:i<s.size)(h':¬bt s i=10):zbK s from0 i=zbK s from0 (i+1):=by
 rw [zbK,if_pos h,if_neg h']
def lines(s:ByteArray):List ByteArray:=zbK s 0 0
def zpa(c:Int):Bool:=decide (c=32∨c=9∨c=59)
def flush(now:ByteArray)(l:List ByteArray):List ByteArray:=if now.size=0 then l else l++[now]
def zaE(s:ByteArray)(i:Nat)(now:ByteArray)(l:List ByteArray):List ByteArray :=
 if i<s.size then
  if zpa (bt s i)=false then zaE s (i+1) (now++s.extract i (i+1)) l
  else if bt s i=59 then flush now l
  else zaE s (i+1) ByteArray.empty (flush now l)
 else flush now l
termination_by s.size-i
def zbu(s:ByteArray):List ByteArray:=zaE s 0 ByteArray.empty []
theorem zdf(s:ByteArray)(i:Nat)(now:ByteArray)(l:List ByteArray)(h:¬i<s.size):zaE s i now l=flush now l:=by
 rw [zaE,if_neg h]
theorem zeB(s:ByteArray)(i:Nat)(now:ByteArray)(l:List ByteArray)(h:i<s.size)(h':¬(bt s i=32∨bt s i=9∨bt s i=59)):zaE s i now l=zaE s (i+1) (now++s.extract i (i+1)) l:=by
 rw [zaE,if_pos h,if_pos (by simpa [zpa] using h')]
theorem zcK(s:ByteArray)(i:Nat)(now:ByteArray)(l:List ByteArray)(h:i<s.size)(h':bt s i=59):zaE s i now l=flush now l:=by
 rw [zaE,if_pos h,if_neg (by simp [zpa,h']),if_pos h']
theorem zcl(s:ByteArray)(i:Nat)(now:ByteArray)(l:List ByteArray)(h:i<s.size)(h':bt s i=32∨bt s i=9):zaE s i now l=zaE s (i+1) ByteArray.empty (flush now l):=by
 rw [zaE,if_pos h,if_neg (by simp [zpa];omega),if_neg (by omega)]
end Sp
section
open Go.RowKit Sp
theorem zzJ(s:ByteArray)(h:¬(s.size=2∧bt s 0=114∧48≤bt s 1∧bt s 1≤55)):(-1:Int)=reg s:=by
 unfold reg regB;simp;omega
theorem zyj(s:ByteArray)(h:s.size=2)(h0:bt s 0=114)(h1:48≤bt s 1)(h2:bt s 1≤55):bt s 1-48=reg s:=by
 unfold reg regB;simp [h,h0,h1,h2]
theorem Tryz.info9:(Tryz.prog.info? 9).map (fun i=>(i.zero,i.size,i.bytes))=some (some (.string ByteArray.empty),1,16):=by kernel_rfl
theorem Tryz.under67:Tryz.prog.underlying 67=some (.slice 9):=by kernel_rfl
theorem zdu(s:ByteArray):∀ u∈[Value.string s],u.oneCell'=true:=by
 intro u a;simp at a;subst a;rfl
theorem zfA(now:ByteArray)(l:List ByteArray)(h:¬now.size=0):flush now l=l++[now]:=by unfold flush;rw [if_neg h]
end
section
open Go.RowKit Sp
attribute [local go_sem ↓] Go.wp_at_zero Go.wp_at_succ
theorem Tryz.info2:(Tryz.prog.info? 2).map (fun i=>(i.zero,i.size,i.bytes))=some (some (.int .i64 0),1,8):=by kernel_rfl
theorem Tryz.info3:(Tryz.prog.info? 3).map (fun i=>(i.zero,i.size,i.bytes))=some (some (.int .i64 0),1,8):=by kernel_rfl
theorem Tryz.under29:Tryz.prog.underlying 29=some (.slice 2):=by kernel_rfl
theorem Tryz.under59:Tryz.prog.underlying 59=some (.slice 3):=by kernel_rfl
end
section
def HpAll(f:Nat→Int)(n:Nat):Prop:=∀ i,0<i→i<n→f ((i-1)/2)≤f i
structure RiseI(f:Nat→Int)(n a:Nat):Prop where
 all:∀ i,0<i→i<n→¬i=a→f ((i-1)/2)≤f i
 over:∀ i,0<i→i<n→(i-1)/2=a→0<a→f ((a-1)/2)≤f i
structure SinkI(f:Nat→Int)(n a:Nat):Prop where
 all:∀ i,0<i→i<n→¬(i-1)/2=a→f ((i-1)/2)≤f i
 over:∀ i,0<i→i<n→(i-1)/2=a→0<a→f ((a-1)/2)≤f i
def zoj(f:Nat→Int)(a b:Nat):Nat→Int:=fun i=>if i=a then f b else if i=b then f a else f i
theorem HpAll.least{f:Nat→Int}{n:Nat}(h:HpAll f n):∀ i,i<n→f 0≤f i:=by
 intro i
 induction i using Nat.strongRecOn with
 | ind i ih =>
  intro b;by_cases a:i=0
  ·subst a;exact Int.le_refl _
  ·have h1:=ih ((i-1)/2) (by omega) (by omega);have h2:=h i (by omega) b;omega
theorem RiseI.done{f:Nat→Int}{n a:Nat}(h:RiseI f n a)(h0:a=0∨f ((a-1)/2)≤f a):HpAll f n:=by
 intro i b c;by_cases e:i=a
 ·subst e;rcases h0 with h0|h0
  ·omega
  ·exact h0
 ·exact h.all i b c e
theorem RiseI.step{f:Nat→Int}{n a:Nat}(h:RiseI f n a)(ha:0<a)(han:a<n)(hle:f a≤f ((a-1)/2)):RiseI (zoj f a ((a-1)/2)) n ((a-1)/2):=by
 have c:∀ x,zoj f a ((a-1)/2) x=if x=a then f ((a-1)/2) else if x=(a-1)/2 then f a else f x:=fun x=>rfl
 constructor
 ·intro i g j m;rw [c,c];by_cases b:i=a
  ·subst b;rw [if_neg (by omega),if_pos rfl,if_pos rfl];exact hle
  ·rw [if_neg b,if_neg m];by_cases k:(i-1)/2=a
   ·rw [if_pos k];exact h.over i g j k ha
   ·rw [if_neg k];have d:=h.all i g j b;by_cases o:(i-1)/2=(a-1)/2
    ·rw [if_pos o];rw [o] at d;omega
    ·rw [if_neg o];exact d
 ·intro i g j e l;rw [c,c,if_neg (by omega),if_neg (by omega)];have p:=h.all ((a-1)/2) l (by omega) (by omega);by_cases b:i=a
  ·rw [if_pos b];exact p
  ·rw [if_neg b,if_neg (by omega)];have d:=h.all i g j b;rw [e] at d;omega
theorem SinkI.done{f:Nat→Int}{n a:Nat}(h:SinkI f n a)(h1:2*a+1<n→f a≤f (2*a+1))(h2:2*a+2<n→f a≤f (2*a+2)):HpAll f n:=by
 intro i c b;by_cases e:(i-1)/2=a
 ·rcases(by omega:i=2*a+1∨i=2*a+2) with rfl|rfl
  ·rw [e];exact h1 b
  ·rw [e];exact h2 b
 ·exact h.all i c b e
theorem SinkI.step{f:Nat→Int}{n a c:Nat}(h:SinkI f n a)(hc:c=2*a+1∨c=2*a+2)(hcn:c<n)(h0:f c≤f a)(h1:2*a+1<n→f c≤f (2*a+1))(h2:2*a+2<n→f c≤f (2*a+2)):SinkI (zoj f a c) n c:=by
 have d:∀ x,zoj f a c x=if x=a then f c else if x=c then f a else f x:=fun x=>rfl
 constructor
 ·intro i g b k;rw [d,d];by_cases l:i=c
  ·subst l;rw [if_pos (by omega),if_neg (by omega),if_pos rfl];exact h0
  ·by_cases m:i=a
   ·subst m;rw [if_neg (by omega),if_neg (by omega),if_pos rfl];exact h.over c (by omega) hcn (by omega) g
   ·rw [if_neg m,if_neg l,if_neg k];by_cases j:(i-1)/2=a
    ·rw [if_pos j];rcases(by omega:i=2*a+1∨i=2*a+2) with rfl|rfl
     ·exact h1 b
     ·exact h2 b
    ·rw [if_neg j];exact h.all i g b j
 ·intro i g b e hc2;rw [d,d,if_pos (by omega),if_neg (by omega),if_neg (by omega)];have o:=h.all i g b (by omega);rw [e] at o;exact o
theorem SinkI.head{f g:Nat→Int}{n m:Nat}(h:HpAll f n)(hm:m≤n)(e:∀ i,0<i→i<m→g i=f i):SinkI g m 0 :=
 ⟨fun i hi hn hne=>by rw [e i hi hn,e _ (by omega) (by omega)];exact h i hi (by omega),fun i hi hn _ h0=>absurd h0 (by omega)⟩
theorem RiseI.last{f g:Nat→Int}{n:Nat}(h:HpAll f n)(e:∀ i,i<n→g i=f i):RiseI g (n+1) n :=
 ⟨fun i hi hn hne=>by rw [e i (by omega),e _ (by omega)];exact h i hi (by omega),fun i hi hn e2=>by omega⟩
def zdZ{α:Type}(d:α)(l:List α)(i j:Nat):List α:=(l.set i (l.getD j d)).set j (l.getD i d)
theorem ztR{α:Type}(d:α)(l:List α)(i j:Nat):(zdZ d l i j).length=l.length:=by simp [zdZ]
theorem zgC{α:Type}{d:α}{l:List α}{i j:Nat}(hi:i<l.length)(hj:j<l.length):(zdZ d l i j).Perm l:=by
 have e1:l.getD j d=l[j]:=by simp [List.getD,hj]
 have a:l.getD i d=l[i]:=by simp [List.getD,hi]
 unfold zdZ;rw [e1,a];exact List.set_set_perm hi hj
theorem zp9{α:Type}{d:α}{l:List α}{i j:Nat}(hi:i<l.length)(hj:j<l.length)(hne:¬i=j)(x:Nat):(zdZ d l i j).getD x d=if x=i then l.getD j d else if x=j then l.getD i d else l.getD x d:=by
 unfold zdZ;simp only [List.getD,List.getElem?_set];by_cases e:j=x
 ·subst e;have hne':¬j=i:=fun h=>hne h.symm;simp [hne',hj]
 ·have a:¬x=j:=fun h=>e h.symm;by_cases b:i=x
  ·subst b;simp [e,hi]
  ·have c:¬x=i:=fun h=>b h.symm;simp [e,b,a,c]
theorem ztS{α:Type}{d:α}{l:List α}{i j:Nat}(hi:i<l.length)(hj:j<l.length)(hne:¬i=j)(st:α→Int):(fun x=>st ((zdZ d l i j).getD x d))=zoj (fun x=>st (l.getD x d)) i j:=by
 funext x
 show st ((zdZ d l i j).getD x d)=if x=i then st (l.getD j d) else if x=j then st (l.getD i d) else st (l.getD x d)
 rw [zp9 hi hj hne];split
 ·rfl
 ·split <;> rfl
end
end Go.Proofs.YtfpgjkbjbbgciaaGreatDoor
