import Derived.Test.YtfpgjkbjbbgciaaGreatDoorMi00
set_option maxRecDepth 100000
set_option maxHeartbeats 8000000
namespace Go.Proofs.YtfpgjkbjbbgciaaGreatDoor.Sp
theorem zo5(s:ByteArray)(j:Nat):bt s j=((s.get! j).toNat:Int):=by
 unfold bt ByteArray.get!
 cases h:s.data[j]? with
 | none =>
  have:¬j<s.data.size:=by
   intro hj;rw [Array.getElem?_eq_getElem hj] at h;cases h
  simp [getElem!_def,h]
  rfl
 | some v=>simp [getElem!_def,h]
def chrB(i z:Nat)(b0 b1 b2 b3:Int):Int × Int :=
 if b0<128 then(1,b0)
 else if 194≤b0∧b0<224 then zdw 2 128 (if i+1<z∧128≤b1∧b1≤191 then some (64*(b0-192)+b1-128) else none)
 else if 224≤b0∧b0<240 then zdw 3 2048 (if i+1<z∧128≤b1∧b1≤191 then(if i+1+1<z∧128≤b2∧b2≤191 then some (64*(64*(b0-224)+b1-128)+b2-128) else none) else none)
 else if 240≤b0∧b0<245 then zdw 4 65536 (if i+1<z∧128≤b1∧b1≤191 then(if i+1+1<z∧128≤b2∧b2≤191 then(if i+1+1+1<z∧128≤b3∧b3≤191 then some (64*(64*(64*(b0-240)+b1-128)+b2-128)+b3-128) else none) else none) else none)
 else(0,0)
theorem zzW(s:ByteArray)(i:Nat):chr s i=chrB i s.size (bt s i) (bt s (i+1)) (bt s (i+2)) (bt s (i+3)):=rfl
theorem decB(i z b0 b1 b2 b3:Nat)(h0:b0<256)(h1:b1<256)(h2:b2<256)(h3:b3<256):
  ((chrB i z b0 b1 b2 b3).1=0→Lib.decodeN (z-i) b0 b1 b2 b3=(65533,1))∧(¬(chrB i z b0 b1 b2 b3).1=0→Lib.decodeN (z-i) b0 b1 b2 b3=((chrB i z b0 b1 b2 b3).2.toNat,(chrB i z b0 b1 b2 b3).1.toNat)):=by
 unfold chrB
 split
 ·refine⟨fun h=>absurd h (by simp),fun _=>?_⟩
  unfold Lib.decodeN
  rw [if_pos (by omega)]
  exact Prod.ext (by simp) rfl
 split
 ·split
  ·by_cases hb:64*((b0:Int)-192)+b1-128<128∨1114111<64*((b0:Int)-192)+b1-128∨(55296≤64*((b0:Int)-192)+b1-128∧64*((b0:Int)-192)+b1-128≤57343)
   ·rw [zdw,if_pos hb]
    refine⟨fun _=>?_,fun h=>absurd rfl h⟩
    unfold Lib.decodeN
    repeat' split
    all_goals first|rfl|(exfalso;omega)
   ·rw [zdw,if_neg hb]
    refine⟨fun h=>absurd h (by simp),fun _=>?_⟩
    unfold Lib.decodeN
    repeat' split
    all_goals first|(exfalso;omega)|(apply Prod.ext <;> simp only <;> omega)
  ·refine⟨fun _=>?_,fun h=>absurd rfl h⟩
   unfold Lib.decodeN
   repeat' split
   all_goals first|rfl|(exfalso;omega)
 split
 ·split
  ·split
   ·by_cases hb:64*(64*((b0:Int)-224)+b1-128)+b2-128<2048∨1114111<64*(64*((b0:Int)-224)+b1-128)+b2-128∨(55296≤64*(64*((b0:Int)-224)+b1-128)+b2-128∧64*(64*((b0:Int)-224)+b1-128)+b2-128≤57343)
    ·rw [zdw,if_pos hb]
     refine⟨fun _=>?_,fun h=>absurd rfl h⟩
     unfold Lib.decodeN
     repeat' split
     all_goals first|rfl|(exfalso;omega)
    ·rw [zdw,if_neg hb]
     refine⟨fun h=>absurd h (by simp),fun _=>?_⟩
     unfold Lib.decodeN
     repeat' split
     all_goals first|(exfalso;omega)|(apply Prod.ext <;> simp only <;> omega)
   ·refine⟨fun _=>?_,fun h=>absurd rfl h⟩
    unfold Lib.decodeN
    repeat' split
    all_goals first|rfl|(exfalso;omega)
  ·refine⟨fun _=>?_,fun h=>absurd rfl h⟩
   unfold Lib.decodeN
   repeat' split
   all_goals first|rfl|(exfalso;omega)
 split
 ·split
  ·split
   ·split
    ·by_cases hb:64*(64*(64*((b0:Int)-240)+b1-128)+b2-128)+b3-128<65536∨1114111<64*(64*(64*((b0:Int)-240)+b1-128)+b2-128)+b3-128∨(55296≤64*(64*(64*((b0:Int)-240)+b1-128)+b2-128)+b3-128∧64*(64*(64*((b0:Int)-240)+b1-128)+b2-128)+b3-128≤57343)
     ·rw [zdw,if_pos hb]
      refine⟨fun _=>?_,fun h=>absurd rfl h⟩
      unfold Lib.decodeN
      repeat' split
      all_goals first|rfl|(exfalso;omega)
     ·rw [zdw,if_neg hb]
      refine⟨fun h=>absurd h (by simp),fun _=>?_⟩
      unfold Lib.decodeN
      repeat' split
      all_goals first|(exfalso;omega)|(apply Prod.ext <;> simp only <;> omega)
    ·refine⟨fun _=>?_,fun h=>absurd rfl h⟩
     unfold Lib.decodeN
     repeat' split
     all_goals first|rfl|(exfalso;omega)
   ·refine⟨fun _=>?_,fun h=>absurd rfl h⟩
    unfold Lib.decodeN
    repeat' split
    all_goals first|rfl|(exfalso;omega)
  ·refine⟨fun _=>?_,fun h=>absurd rfl h⟩
   unfold Lib.decodeN
   repeat' split
   all_goals first|rfl|(exfalso;omega)
 ·refine⟨fun _=>?_,fun h=>absurd rfl h⟩
  unfold Lib.decodeN
  repeat' split
  all_goals first|rfl|(exfalso;omega)
theorem zgr(s:ByteArray)(i:Nat):((chr s i).1=0→Utf8.decode s i=(65533,1))∧(¬(chr s i).1=0→Utf8.decode s i=((chr s i).2.toNat,(chr s i).1.toNat)):=by
 rw [zzW,Lib.decode_at,zo5 s i,zo5 s (i+1),zo5 s (i+2),zo5 s (i+3)]
 exact decB i s.size _ _ _ _ (s.get! i).toNat_lt (s.get! (i+1)).toNat_lt (s.get! (i+2)).toNat_lt (s.get! (i+3)).toNat_lt
def zbN(s:ByteArray)(from0 i:Nat):List ByteArray :=
 if i<s.size then
  if bt s i=10 then s.extract from0 i :: zbN s (i+1) (i+1) else zbN s from0 (i+1)
 else [s.extract from0 s.size]
termination_by s.size-i
theorem zfo(s:ByteArray)(from0 i:Nat)(h:¬i<s.size):zbN s from0 i=[s.extract from0 s.size]:=by
 rw [zbN,if_neg h]
theorem zfp(s:ByteArray)(from0 i:Nat)(h:i<s.size)(h':bt s i=10):zbN s from0 i=s.extract from0 i :: zbN s (i+1) (i+1):=by
 rw [zbN,if_pos h,if_pos h']
theorem zgs(s:ByteArray)(from0 i:Nat)(h:i<s.size)(h':¬bt s i=10):zbN s from0 i=zbN s from0 (i+1):=by
 rw [zbN,if_pos h,if_neg h']
def lines(s:ByteArray):List ByteArray:=zbN s 0 0
def zo7(c:Int):Bool:=decide (c=32∨c=9∨c=59)
def flush(now:ByteArray)(l:List ByteArray):List ByteArray:=if now.size=0 then l else l++[now]
def zaD(s:ByteArray)(i:Nat)(now:ByteArray)(l:List ByteArray):List ByteArray :=
 if i<s.size then
  if zo7 (bt s i)=false then zaD s (i+1) (now++s.extract i (i+1)) l
  else if bt s i=59 then flush now l
  else zaD s (i+1) ByteArray.empty (flush now l)
 else flush now l
termination_by s.size-i
def zbv(s:ByteArray):List ByteArray:=zaD s 0 ByteArray.empty []
theorem zdk(s:ByteArray)(i:Nat)(now:ByteArray)(l:List ByteArray)(h:¬i<s.size):zaD s i now l=flush now l:=by
 rw [zaD,if_neg h]
theorem zeK(s:ByteArray)(i:Nat)(now:ByteArray)(l:List ByteArray)(h:i<s.size)(h':¬(bt s i=32∨bt s i=9∨bt s i=59)):zaD s i now l=zaD s (i+1) (now++s.extract i (i+1)) l:=by
 rw [zaD,if_pos h,if_pos (by simpa [zo7] using h')]
theorem zcT(s:ByteArray)(i:Nat)(now:ByteArray)(l:List ByteArray)(h:i<s.size)(h':bt s i=59):zaD s i now l=flush now l:=by
 rw [zaD,if_pos h,if_neg (by simp [zo7,h']),if_pos h']
theorem zcr(s:ByteArray)(i:Nat)(now:ByteArray)(l:List ByteArray)(h:i<s.size)(h':bt s i=32∨bt s i=9):zaD s i now l=zaD s (i+1) ByteArray.empty (flush now l):=by
 rw [zaD,if_pos h,if_neg (by simp [zo7];omega),if_neg (by omega)]
def least:Int:=-9223372036854775808
def zdF(n d:Int):Bool:=decide (d<0)||decide (9<d)||decide (n<(least+d).tdiv 10)
def zfe(s:ByteArray)(i:Nat)(n:Int):Option Int :=
 if i<s.size then
  if zdF n (bt s i-48)=true then none else zfe s (i+1) (10*n-(bt s i-48))
 else some n
termination_by s.size-i
theorem zkR(s:ByteArray)(i:Nat)(n:Int)(h:¬i<s.size):zfe s i n=some n:=by
 rw [zfe,if_neg h]
theorem zkS(s:ByteArray)(i:Nat)(n:Int)(h:i<s.size)(h':zdF n (bt s i-48)=true):zfe s i n=none:=by
 rw [zfe,if_pos h,if_pos h']
theorem zjv(s:ByteArray)(i:Nat)(n:Int)(h:i<s.size)(h':¬zdF n (bt s i-48)=true):zfe s i n=zfe s (i+1) (10*n-(bt s i-48)):=by
 rw [zfe,if_pos h,if_neg h']
def zdc(minus:Bool):Option Int→Int × Bool
 | none=>(0,false)
 | some n=>if minus=true then(n,true) else(if n=least then least else -n,decide (least<n))
def zgR(s:ByteArray):Bool:=decide (0<s.size)&&decide (bt s 0=45)
def zbc(s:ByteArray):Int × Bool :=
 if zgR s=true then(if s.size=1 then(0,false) else zdc true (zfe s 1 0))
 else(if s.size=0 then(0,false) else zdc false (zfe s 0 0))
theorem zo6(d:Int)(h:d≤9):(least+d).tdiv 10=-((9223372036854775808-d)/10):=by
 have e:least+d=-(9223372036854775808-d):=by unfold least;omega
 rw [e,Int.neg_tdiv,Int.tdiv_eq_ediv_of_nonneg (by omega)]
theorem zuZ(n d:Int)(h:¬zdF n d=true)(h0:least≤n)(h1:n≤0):least≤10*n-d∧10*n-d≤0∧0≤d∧d≤9:=by
 simp [zdF] at h
 obtain⟨⟨h2,h3⟩,h4⟩:=h
 rw [zo6 d h3] at h4
 unfold least at *
 omega
def numL:List UInt8→Int→Option Int
 | [],n=>some n
 | c :: r,n=>if zdF n ((c.toNat:Int)-48)=true then none else numL r (10*n-((c.toNat:Int)-48))
theorem zhI(s:ByteArray)(i:Nat)(h:i<s.size):∃ c r,s.data.toList.drop i=c :: r∧(c.toNat:Int)=bt s i∧r=s.data.toList.drop (i+1):=by
 have h':i<s.data.toList.length:=by simpa using h
 refine⟨s.data.toList[i],s.data.toList.drop (i+1),List.drop_eq_getElem_cons h',?_,rfl⟩
 unfold bt
 have h2:i<s.data.size:=h
 rw [Array.getElem?_eq_getElem h2]
 simp
theorem zfs(s:ByteArray)(i:Nat)(n:Int):zfe s i n=numL (s.data.toList.drop i) n:=by
 by_cases h:i<s.size
 ·obtain⟨c,r,h1,h2,h3⟩:=zhI s i h
  rw [h1]
  cases hb:zdF n (bt s i-48) with
  | true=>rw [zkS s i n h hb];simp [numL,h2,hb]
  | false =>
   rw [zjv s i n h (by simp [hb]),zfs s (i+1),←h3]
   simp [numL,h2,hb]
 ·rw [zkR s i n h,List.drop_of_length_le (by simpa using h)];rfl
termination_by s.size-i
def zaS:List UInt8→Bool
 | []=>true
 | c :: r=>decide (48≤c.toNat∧c.toNat≤57)&&zaS r
theorem zgt(a:Nat)(d:Int)(h0:0≤d)(h9:d≤9):zdF (-(a:Int)) d=decide (9223372036854775808<10*(a:Int)+d):=by
 unfold zdF
 rw [zo6 d h9]
 by_cases h:9223372036854775808<10*(a:Int)+d
 ·have:-(a:Int) < -((9223372036854775808-d)/10):=by omega
  simp [h,this]
 ·have:¬-(a:Int) < -((9223372036854775808-d)/10):=by omega
  have h1:¬d<0:=by omega
  have h2:¬9<d:=by omega
  simp [h,this,h1,h2]
theorem zmS(M:Nat)(l:List UInt8)(a u:Nat)(h:Lib.parseUintM M a l=.ok u):a≤u:=by
 induction l generalizing a with
 | nil=>simp [Lib.parseUintM] at h;omega
 | cons c r ih =>
  unfold Lib.parseUintM at h
  split at h
  ·split at h
   ·cases h
   ·split at h
    ·cases h
    ·have:=ih _ h;omega
  ·cases h
def zel:Lib.NumEnd Nat→Option Int
 | .ok u=>if u≤9223372036854775808 then some (-(u:Int)) else none
 | _=>none
theorem zo8(l:List UInt8)(a:Nat)(hd:zaS l=true)(ha:a≤9223372036854775808):numL l (-(a:Int))=zel (Lib.parseUintM (2 ^ 64-1) a l):=by
 induction l generalizing a with
 | nil=>simp [numL,Lib.parseUintM,zel,ha]
 | cons c r ih =>
  simp only [zaS,Bool.and_eq_true,decide_eq_true_eq] at hd
  obtain⟨hc,hr⟩:=hd
  unfold numL Lib.parseUintM
  rw [if_pos hc,zgt a _ (by omega) (by omega)]
  by_cases hb:9223372036854775808<10*(a:Int)+((c.toNat:Int)-48)
  ·rw [if_pos (by simpa using hb)]
   split
   ·rfl
   ·split
    ·rfl
    ·cases he:Lib.parseUintM (2 ^ 64-1) (a*10+(c.toNat-48)) r with
     | ok u =>
      have:=zmS _ _ _ _ he
      simp [zel];omega
     | «syntax»=>rfl
     | range=>rfl
  ·rw [if_neg (by simpa using hb),if_neg (by omega),if_neg (by omega)]
   have e:10 * -(a:Int)-((c.toNat:Int)-48)=-((a*10+(c.toNat-48):Nat):Int):=by omega
   rw [e]
   exact ih _ hr (by omega)
theorem zo9(l:List UInt8)(n:Int)(hd:zaS l=false):numL l n=none:=by
 induction l generalizing n with
 | nil=>simp [zaS] at hd
 | cons c r ih =>
  unfold numL
  cases hb:zdF n ((c.toNat:Int)-48) with
  | true=>rfl
  | false =>
   have hr:zaS r=false:=by
    simp only [zaS] at hd
    have hc:48≤c.toNat∧c.toNat≤57:=by
     simp [zdF] at hb
     omega
    simpa [hc] using hd
   simp only [Bool.false_eq_true,if_false]
   exact ih _ hr
def bare(l:List UInt8):List UInt8:=match l with|45 :: r=>r|l=>l
theorem zjw(s:ByteArray):zgR s=(match s.data.toList with|45 :: _=>true|_=>false):=by
 by_cases h:0<s.size
 ·obtain⟨c,r,h1,h2,_⟩:=zhI s 0 h
  rw [List.drop_zero] at h1
  rw [h1]
  unfold zgR
  rw [←h2]
  by_cases hc:c=45
  ·subst hc;simp [h]
  ·have:¬(c.toNat:Int)=45:=by
    intro e;apply hc;exact UInt8.toNat_inj.1 (by simp;omega)
   simp [h,this]
   split
   ·rename_i heq;simp at heq;exact absurd heq.1 hc
   ·rfl
 ·have h0:s.data.toList=[]:=List.eq_nil_of_length_eq_zero (by simpa using h)
  rw [h0]
  simp [zgR,h]
theorem zva(s:ByteArray)(h:zaS (bare s.data.toList)=false):(zbc s).2=false:=by
 have hm:=zjw s
 unfold zbc
 split at hm
 ·rename_i r heq
  rw [hm,if_pos rfl]
  rw [heq] at h
  split
  ·rfl
  ·rw [zfs,heq]
   simp only [List.drop_succ_cons,List.drop_zero]
   rw [zo9 r 0 (by simpa [bare] using h)];rfl
 ·rename_i hne
  rw [hm,if_neg (by simp)]
  have hb:bare s.data.toList=s.data.toList:=by
   unfold bare;split
   ·rename_i r heq;exact absurd heq (hne r)
   ·rfl
  rw [hb] at h
  split
  ·rfl
  ·rw [zfs,List.drop_zero,zo9 _ 0 h];rfl
theorem zvb(s:ByteArray)(h:zaS (bare s.data.toList)=true):(∀ v,Lib.parseIntB 64 s.data.toList=.ok v→zbc s=(v,true))∧(Lib.parseIntB 64 s.data.toList=.«syntax»→(zbc s).2=false)∧(Lib.parseIntB 64 s.data.toList=.range→(zbc s).2=false):=by
 have hm:=zjw s
 have hsz:s.data.toList.length=s.size:=by simp
 split at hm
 ·rename_i r heq
  have hr:zaS r=true:=by rw [heq] at h;simpa [bare] using h
  rw [heq] at hsz ⊢
  have e:zbc s=if s.size=1 then(0,false) else zdc true (zfe s 1 0):=by unfold zbc;rw [hm,if_pos rfl]
  rw [e,zfs,heq]
  simp only [List.drop_succ_cons,List.drop_zero]
  have hmag:=zo8 r 0 hr (by omega)
  simp only [Int.ofNat_zero,Int.neg_zero] at hmag
  rw [hmag]
  simp only [List.length_cons] at hsz
  have hp:Lib.parseIntB 64 (45 :: r)=(match Lib.parseUintB 64 r with|.«syntax»=>.«syntax»|.range=>.range|.ok u=>if 9223372036854775808<u then .range else .ok (-(u:Int))):=by
   unfold Lib.parseIntB
   simp
   cases Lib.parseUintB 64 r <;> rfl
  rw [hp]
  unfold Lib.parseUintB
  by_cases h0:r=[]
  ·subst h0
   have:s.size=1:=by simp at hsz;omega
   simp [this]
  ·have h1:¬s.size=1:=by cases r with|nil=>exact absurd rfl h0|cons a b=>simp at hsz;omega
   rw [if_neg h0,if_neg h1]
   cases he:Lib.parseUintM (2 ^ 64-1) 0 r with
   | «syntax»=>simp [zel,zdc]
   | range=>simp [zel,zdc]
   | ok u =>
    by_cases hu:u≤9223372036854775808
    ·have hu':¬9223372036854775808<u:=by omega
     simp [zel,hu,hu',zdc]
    ·have hu':9223372036854775808<u:=by omega
     simp [zel,hu,hu',zdc]
 ·rename_i hne
  have hb:bare s.data.toList=s.data.toList:=by
   unfold bare;split
   ·rename_i r heq;exact absurd heq (hne r)
   ·rfl
  rw [hb] at h
  have e:zbc s=if s.size=0 then(0,false) else zdc false (zfe s 0 0):=by unfold zbc;rw [hm,if_neg (by simp)]
  rw [e,zfs,List.drop_zero]
  have hmag:=zo8 s.data.toList 0 h (by omega)
  simp only [Int.ofNat_zero,Int.neg_zero] at hmag
  rw [hmag]
  generalize s.data.toList=l at *
  cases l with
  | nil =>
   have:s.size=0:=by simpa using hsz.symm
   simp [this,Lib.parseIntB]
  | cons c r =>
   have h1:¬s.size=0:=by simp at hsz;omega
   rw [if_neg h1]
   simp only [zaS,Bool.and_eq_true,decide_eq_true_eq] at h
   have c1:¬c.toNat=43:=by omega
   have c2:¬c.toNat=45:=by omega
   have hp:Lib.parseIntB 64 (c :: r)=(match Lib.parseUintB 64 (c :: r) with|.«syntax»=>.«syntax»|.range=>.range|.ok u=>if 9223372036854775808≤u then .range else .ok (u:Int)):=by
    unfold Lib.parseIntB
    simp [c1,c2]
    cases Lib.parseUintB 64 (c :: r) <;> rfl
   rw [hp]
   unfold Lib.parseUintB
   rw [if_neg (by simp)]
   cases he:Lib.parseUintM (2 ^ 64-1) 0 (c :: r) with
   | «syntax»=>simp [zel,zdc]
   | range=>simp [zel,zdc]
   | ok u =>
    by_cases hu:9223372036854775808≤u
    ·by_cases hu2:u≤9223372036854775808
     ·have hu3:u=9223372036854775808:=by omega
      subst hu3
      simp [zel,zdc,least]
     ·simp [zel,zdc,hu,hu2]
    ·have hu2:u≤9223372036854775808:=by omega
     have hu3:¬(-(u:Int))=least:=by unfold least;omega
     have hu4:least < -(u:Int):=by unfold least;omega
     simp [zel,zdc,hu,hu2,hu3,hu4]
end Go.Proofs.YtfpgjkbjbbgciaaGreatDoor.Sp
