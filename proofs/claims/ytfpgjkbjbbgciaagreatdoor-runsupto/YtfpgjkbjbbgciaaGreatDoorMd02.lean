import Derived.Test.YtfpgjkbjbbgciaaGreatDoorMd00
import Derived.Lib.DecodeN
import Derived.Test.YtfpgjkbjbbgciaaGreatDoorProg
import Derived.WalkKit
import Derived.WalkSpells
import Derived.WalkLawsBesides
set_option maxRecDepth 100000
set_option maxHeartbeats 8000000
namespace Go.Proofs.YtfpgjkbjbbgciaaGreatDoor.Sp
theorem zjC(s:ByteArray)(i k:Nat)(v u:Int)(h:zbM s i k v=some u):i+k≤s.size∨k=0:=by
 induction k generalizing i v with
 | zero=>exact .inr rfl
 | succ k ih =>
  unfold zbM at h
  split at h
  ·rename_i hc
   rcases ih _ _ h with h'|h'
   ·exact .inl (by omega)
   ·subst h';exact .inl (by omega)
  ·cases h
theorem zbN(n least:Int)(o:Option Int):(zaV n least o=(0,0))∨(∃ v,o=some v∧zaV n least o=(n,v)∧least≤v∧v≤1114111):=by
 cases o with
 | none=>exact .inl rfl
 | some v =>
  by_cases h:v<least∨1114111<v∨(55296≤v∧v≤57343)
  ·exact .inl (if_pos h)
  ·exact .inr ⟨v,rfl,if_neg h,by omega,by omega⟩
theorem zwk(s:ByteArray)(i:Nat)(hi:i<s.size):chr s i=(0,0)∨(1≤(chr s i).1∧(chr s i).1≤4∧i+(chr s i).1≤s.size∧0≤(chr s i).2∧(chr s i).2≤1114111):=by
 have hb:=zxK s i
 unfold chr
 split
 ·exact .inr ⟨by simp,by simp,by simp;omega,by simpa using hb.1,by simp;omega⟩
 split
 ·rcases zbN 2 128 (zbM s (i+1) 1 (bt s i-192)) with h|⟨v,h1,h2,h3,h4⟩
  ·exact .inl h
  ·rw [h2]
   rcases zjC _ _ _ _ _ h1 with h|h
   ·exact .inr ⟨by simp,by simp,by simp;omega,by simp;omega,by simpa using h4⟩
   ·omega
 split
 ·rcases zbN 3 2048 (zbM s (i+1) 2 (bt s i-224)) with h|⟨v,h1,h2,h3,h4⟩
  ·exact .inl h
  ·rw [h2]
   rcases zjC _ _ _ _ _ h1 with h|h
   ·exact .inr ⟨by simp,by simp,by simp;omega,by simp;omega,by simpa using h4⟩
   ·omega
 split
 ·rcases zbN 4 65536 (zbM s (i+1) 3 (bt s i-240)) with h|⟨v,h1,h2,h3,h4⟩
  ·exact .inl h
  ·rw [h2]
   rcases zjC _ _ _ _ _ h1 with h|h
   ·exact .inr ⟨by simp,by simp,by simp;omega,by simp;omega,by simpa using h4⟩
   ·omega
 ·exact .inl rfl
def chrN(s:ByteArray)(i:Nat):Nat:=(chr s i).1.toNat
theorem zcA(s:ByteArray)(i:Nat)(hi:i<s.size)(h:¬(chr s i).1=0):((chrN s i:Nat):Int)=(chr s i).1∧1≤chrN s i∧chrN s i≤4∧i+chrN s i≤s.size∧0≤(chr s i).2∧(chr s i).2≤1114111:=by
 rcases zwk s i hi with h'|h'
 ·rw [h'] at h;simp at h
 ·unfold chrN;omega
def zao(s:ByteArray)(i:Nat):Bool :=
 if _hi:i<s.size then
  if _h:(chr s i).1=0 then false else zao s (i+chrN s i)
 else true
termination_by s.size-i
decreasing_by have:=zcA s i _hi _h;omega
theorem zhq(s:ByteArray)(i:Nat)(h:¬i<s.size):zao s i=true:=by
 rw [zao,dif_neg h]
theorem zhr(s:ByteArray)(i:Nat)(h:i<s.size)(h0:(chr s i).1=0):zao s i=false:=by
 rw [zao,dif_pos h,dif_pos h0]
theorem zgB(s:ByteArray)(i:Nat)(h:i<s.size)(h0:¬(chr s i).1=0):zao s i=zao s (i+chrN s i):=by
 rw [zao,dif_pos h,dif_neg h0]
def zcB(c:Int):Bool:=decide (97≤c∧c≤122∨c=95∨945≤c∧c≤969)
def zba(c:Int):Bool:=decide (48≤c∧c≤57)
def zcN(s:ByteArray)(i:Nat)(c:Nat):Option Nat :=
 if hi:i<s.size then
  if h:(chr s i).1=0 then none
  else if zcB (chr s i).2=true∨(zba (chr s i).2=true∧¬i=0) then zcN s (i+chrN s i) (c+1) else none
 else some c
termination_by s.size-i
decreasing_by have:=zcA s i hi h;omega
def zcC:Option Nat→Bool
 | none=>false
 | some c=>decide (1≤c∧c≤12)
def za2(s:ByteArray):Bool:=zcC (zcN s 0 0)
theorem ziK(s:ByteArray)(i c:Nat)(h:¬i<s.size):zcN s i c=some c:=by
 rw [zcN,dif_neg h]
theorem ziL(s:ByteArray)(i c:Nat)(h:i<s.size)(h0:(chr s i).1=0):zcN s i c=none:=by
 rw [zcN,dif_pos h,dif_pos h0]
theorem zfi(s:ByteArray)(i c:Nat)(h:i<s.size)(h0:¬(chr s i).1=0)(h1:zcB (chr s i).2=true∨(zba (chr s i).2=true∧¬i=0)):zcN s i c=zcN s (i+chrN s i) (c+1):=by
 rw [zcN,dif_pos h,dif_neg h0,if_pos h1]
theorem zgi(s:ByteArray)(i c:Nat)(h:i<s.size)(h0:¬(chr s i).1=0)(h1:¬(zcB (chr s i).2=true∨(zba (chr s i).2=true∧¬i=0))):zcN s i c=none:=by
 rw [zcN,dif_pos h,dif_neg h0,if_neg h1]
theorem znK(s:ByteArray)(j:Nat):bt s j=((s.get! j).toNat:Int):=by
 unfold bt ByteArray.get!
 cases h:s.data[j]? with
 | none =>
  have:¬j<s.data.size:=by
   intro hj;rw [Array.getElem?_eq_getElem hj] at h;cases h
  simp [getElem!_def,h]
  rfl
 | some v=>simp [getElem!_def,h]
def chrB(i z:Nat)(b0 b1 b2 b3:Int):Int × Int :=
 if b0<128 then(1,b0)
 else if 194≤b0∧b0<224 then zaV 2 128 (if i+1<z∧128≤b1∧b1≤191 then some (64*(b0-192)+b1-128) else none)
 else if 224≤b0∧b0<240 then zaV 3 2048 (if i+1<z∧128≤b1∧b1≤191 then(if i+1+1<z∧128≤b2∧b2≤191 then some (64*(64*(b0-224)+b1-128)+b2-128) else none) else none)
 else if 240≤b0∧b0<245 then zaV 4 65536 (if i+1<z∧128≤b1∧b1≤191 then(if i+1+1<z∧128≤b2∧b2≤191 then(if i+1+1+1<z∧128≤b3∧b3≤191 then some (64*(64*(64*(b0-240)+b1-128)+b2-128)+b3-128) else none) else none) else none)
 else(0,0)
theorem zyA(s:ByteArray)(i:Nat):chr s i=chrB i s.size (bt s i) (bt s (i+1)) (bt s (i+2)) (bt s (i+3)):=rfl
theorem decB(i z b0 b1 b2 b3:Nat)(h0:b0<256)(h1:b1<256)(h2:b2<256)(h3:b3<256):
  ((chrB i z b0 b1 b2 b3).1=0→Lib.decodeN (z-i) b0 b1 b2 b3=(65533,1))∧(¬(chrB i z b0 b1 b2 b3).1=0→Lib.decodeN (z-i) b0 b1 b2 b3=((chrB i z b0 b1 b2 b3).2.toNat,(chrB i z b0 b1 b2 b3).1.toNat)):=by
 unfold chrB
 split
 ·refine⟨fun h=>absurd h (by simp),fun _=>?_⟩
  unfold Lib.decodeN
  rw [if_pos (by omega)]
  exact Prod.ext (by simp) rfl
 split
 ·split
  ·by_cases hb:64*((b0:Int)-192)+b1-128<128∨1114111<64*((b0:Int)-192)+b1-128∨(55296≤64*((b0:Int)-192)+b1-128∧64*((b0:Int)-192)+b1-128≤57343)
   ·rw [zaV,if_pos hb]
    refine⟨fun _=>?_,fun h=>absurd rfl h⟩
    unfold Lib.decodeN
    repeat' split
    all_goals first|rfl|(exfalso;omega)
   ·rw [zaV,if_neg hb]
    refine⟨fun h=>absurd h (by simp),fun _=>?_⟩
    unfold Lib.decodeN
    repeat' split
    all_goals first|(exfalso;omega)|(apply Prod.ext <;> simp only <;> omega)
  ·refine⟨fun _=>?_,fun h=>absurd rfl h⟩
   unfold Lib.decodeN
   repeat' split
   all_goals first|rfl|(exfalso;omega)
 split
 ·split
  ·split
   ·by_cases hb:64*(64*((b0:Int)-224)+b1-128)+b2-128<2048∨1114111<64*(64*((b0:Int)-224)+b1-128)+b2-128∨(55296≤64*(64*((b0:Int)-224)+b1-128)+b2-128∧64*(64*((b0:Int)-224)+b1-128)+b2-128≤57343)
    ·rw [zaV,if_pos hb]
     refine⟨fun _=>?_,fun h=>absurd rfl h⟩
     unfold Lib.decodeN
     repeat' split
     all_goals first|rfl|(exfalso;omega)
    ·rw [zaV,if_neg hb]
     refine⟨fun h=>absurd h (by simp),fun _=>?_⟩
     unfold Lib.decodeN
     repeat' split
     all_goals first|(exfalso;omega)|(apply Prod.ext <;> simp only <;> omega)
   ·refine⟨fun _=>?_,fun h=>absurd rfl h⟩
    unfold Lib.decodeN
    repeat' split
    all_goals first|rfl|(exfalso;omega)
  ·refine⟨fun _=>?_,fun h=>absurd rfl h⟩
   unfold Lib.decodeN
   repeat' split
   all_goals first|rfl|(exfalso;omega)
 split
 ·split
  ·split
   ·split
    ·by_cases hb:64*(64*(64*((b0:Int)-240)+b1-128)+b2-128)+b3-128<65536∨1114111<64*(64*(64*((b0:Int)-240)+b1-128)+b2-128)+b3-128∨(55296≤64*(64*(64*((b0:Int)-240)+b1-128)+b2-128)+b3-128∧64*(64*(64*((b0:Int)-240)+b1-128)+b2-128)+b3-128≤57343)
     ·rw [zaV,if_pos hb]
      refine⟨fun _=>?_,fun h=>absurd rfl h⟩
      unfold Lib.decodeN
      repeat' split
      all_goals first|rfl|(exfalso;omega)
     ·rw [zaV,if_neg hb]
      refine⟨fun h=>absurd h (by simp),fun _=>?_⟩
      unfold Lib.decodeN
      repeat' split
      all_goals first|(exfalso;omega)|(apply Prod.ext <;> simp only <;> omega)
    ·refine⟨fun _=>?_,fun h=>absurd rfl h⟩
     unfold Lib.decodeN
     repeat' split
     all_goals first|rfl|(exfalso;omega)
   ·refine⟨fun _=>?_,fun h=>absurd rfl h⟩
    unfold Lib.decodeN
    repeat' split
    all_goals first|rfl|(exfalso;omega)
  ·refine⟨fun _=>?_,fun h=>absurd rfl h⟩
   unfold Lib.decodeN
   repeat' split
   all_goals first|rfl|(exfalso;omega)
 ·refine⟨fun _=>?_,fun h=>absurd rfl h⟩
  unfold Lib.decodeN
  repeat' split
  all_goals first|rfl|(exfalso;omega)
theorem zgj(s:ByteArray)(i:Nat):((chr s i).1=0→Utf8.decode s i=(65533,1))∧(¬(chr s i).1=0→Utf8.decode s i=((chr s i).2.toNat,(chr s i).1.toNat)):=by
 rw [zyA,Lib.decode_at,znK s i,znK s (i+1),znK s (i+2),znK s (i+3)]
 exact decB i s.size _ _ _ _ (s.get! i).toNat_lt (s.get! (i+1)).toNat_lt (s.get! (i+2)).toNat_lt (s.get! (i+3)).toNat_lt
def zbY(s:ByteArray)(from0 i:Nat):List ByteArray :=
 if i<s.size then
  if bt s i=10 then s.extract from0 i :: zbY s (i+1) (i+1) else zbY s from0 (i+1)
 else [s.extract from0 s.size]
termination_by s.size-i
theorem zdR(s:ByteArray)(from0 i:Nat)(h:¬i<s.size):zbY s from0 i=[s.extract from0 s.size]:=by
 rw [zbY,if_neg h]
theorem zdS(s:ByteArray)(from0 i:Nat)(h:i<s.size)(h':bt s i=10):zbY s from0 i=s.extract from0 i :: zbY s (i+1) (i+1):=by
 rw [zbY,if_pos h,if_pos h']
theorem zeJ(s:ByteArray)(from0 i:Nat)(h:i<s.size)(h':¬bt s i=10):zbY s from0 i=zbY s from0 (i+1):=by
 rw [zbY,if_pos h,if_neg h']
def lines(s:ByteArray):List ByteArray:=zbY s 0 0
def znQ(c:Int):Bool:=decide (c=32∨c=9∨c=59)
def zfj(now:ByteArray)(l:List ByteArray):List ByteArray:=if now.size=0 then l else l++[now]
def za4(s:ByteArray)(i:Nat)(now:ByteArray)(l:List ByteArray):List ByteArray :=
 if i<s.size then
  if znQ (bt s i)=false then za4 s (i+1) (now++s.extract i (i+1)) l
  else if bt s i=59 then zfj now l
  else za4 s (i+1) ByteArray.empty (zfj now l)
 else zfj now l
termination_by s.size-i
def words(s:ByteArray):List ByteArray:=za4 s 0 ByteArray.empty []
theorem zcQ(s:ByteArray)(i:Nat)(now:ByteArray)(l:List ByteArray)(h:¬i<s.size):za4 s i now l=zfj now l:=by
 rw [za4,if_neg h]
theorem zeK(s:ByteArray)(i:Nat)(now:ByteArray)(l:List ByteArray)(h:i<s.size)(h':¬(bt s i=32∨bt s i=9∨bt s i=59)):za4 s i now l=za4 s (i+1) (now++s.extract i (i+1)) l:=by
 rw [za4,if_pos h,if_pos (by simpa [znQ] using h')]
theorem zc4(s:ByteArray)(i:Nat)(now:ByteArray)(l:List ByteArray)(h:i<s.size)(h':bt s i=59):za4 s i now l=zfj now l:=by
 rw [za4,if_pos h,if_neg (by simp [znQ,h']),if_pos h']
theorem zb2(s:ByteArray)(i:Nat)(now:ByteArray)(l:List ByteArray)(h:i<s.size)(h':bt s i=32∨bt s i=9):za4 s i now l=za4 s (i+1) ByteArray.empty (zfj now l):=by
 rw [za4,if_pos h,if_neg (by simp [znQ];omega),if_neg (by omega)]
end Go.Proofs.YtfpgjkbjbbgciaaGreatDoor.Sp
namespace Go.Proofs.YtfpgjkbjbbgciaaGreatDoor
open Go.RowKit Sp
theorem Tryz.info9:(Tryz.prog.info? 9).map (fun i=>(i.zero,i.size,i.bytes))=some (some (.string ByteArray.empty),1,16):=by kernel_rfl
theorem Tryz.under67:Tryz.prog.underlying 67=some (.slice 9):=by kernel_rfl
theorem zeL{w wr w1:World}{B:Nat}{v:Value}{n:Nat}{xs:List Value}{o:Obj}(hown:wr.ownsRow B 9 1 v n xs)(hB:B≤wr.heap.size)(hb:Below B w wr)(hg:(wr.alloc o).grownBy w1 v.ownBlock):Below B w w1 :=
 (hb.alloc hB o).grown hg (by simp;omega) (fun k hk=>(hown.lt k hk).1)
theorem zda(s:ByteArray):∀ u∈[Value.string s],u.oneCell'=true:=by
 intro u hu;simp at hu;subst hu;rfl
theorem zrq(s:ByteArray)(w:World)(hs:s.size≤1048576):
  Calls Tryz.prog 45 #[.string s] w fun e w'=>∃ v,e=.returned v∧w'.ownsRow w.heap.size 9 1 v (lines s).length ((lines s).map Value.string)∧Below w.heap.size w w':=by
 obtain⟨i0,hi,hz0,hz1,hz2⟩:=info_parts Tryz.info9
 go_enter Tryz.func45,Tryz.ntmps45
 go_wp2
 go_loopw [3,4,5] (fun v tf ti wr=>∃(k f:Nat) (acc:List ByteArray),k≤s.size∧f≤k∧acc.length≤k∧ti=.int .i64 (k:Int)∧tf=.int .i64 (f:Int)∧wr.ownsRow w.heap.size 9 1 v acc.length (acc.map Value.string)∧Below w.heap.size w wr∧lines s=acc++zbY s f k) (fun _ _ ti _=>s.size-(intOf ti).toNat)
 case atStart=>exact⟨0,0,[],by omega,by omega,by simp,rfl,rfl,World.ownsRow_nil _ _ _ _,Below.refl _ _,rfl⟩
 case round =>
  obtain⟨k,f,acc,hk,hf,hacc,rfl,rfl,hown,hnx,hL⟩:=hrel
  have HL:Hid (lines s=acc++zbY s f k):=hL
  clear hL
  have hsz:=hnx.size
  by_cases hlt:k<s.size
  ·have hc0:0≤(s[k].toNat:Int):=by omega
   have hc1:(s[k].toNat:Int)≤255:=by have:=s[k].toNat_lt;omega
   have HE:Hid ((s[k].toNat:Int)=bt s k):=zdE s k hlt
   by_cases h10:((s[k].toNat:Int) == 10)=true
   ·go_wp2_with(at_builtin;refine wpList_append_own _ rfl _ _ 67 rfl w.heap.size 9 i0 (.string ByteArray.empty) 1 16 Tryz.under67 hi hz0 hz1 hz2 rfl (by decide) _ _ _ rfl (hown.alloc _) ⟨wr.heap.size,0,none⟩ 1 1 [.string (s.extract f k)] rfl rfl (cell_one_new _ _ _) (zda _) (by unfold maxLen;omega) (by omega) (by simp;omega) ?_)
    intro v' w1 hown' hgrow _
    have hb1:=zeL hown hsz hnx hgrow
    clear hgrow
    go_wp2
    go_roundw
    case rel=>exact⟨k+1,k+1,acc++[s.extract f k],by omega,by omega,by simp;omega,by go_num,by go_num,by simpa using hown',hb1,by rw [HL.out,zdS s f k hlt (by have:=HE.out;simp at h10;omega)];simp⟩
    case measure=>simp [intOf];omega
   ·have h10':((s[k].toNat:Int) == 10)=false:=by simpa using h10
    go_wp2
    go_roundw
    case rel=>exact⟨k+1,f,acc,by omega,by omega,by omega,by go_num,rfl,hown,hnx,by rw [HL.out,zeJ s f k hlt (by have:=HE.out;simp at h10';omega)]⟩
    case measure=>simp [intOf];omega
  ·go_wp2_with(at_builtin;refine wpList_append_own _ rfl _ _ 67 rfl w.heap.size 9 i0 (.string ByteArray.empty) 1 16 Tryz.under67 hi hz0 hz1 hz2 rfl (by decide) _ _ _ rfl (hown.alloc _) ⟨wr.heap.size,0,none⟩ 1 1 [.string (s.extract f s.size)] rfl rfl (cell_one_new _ _ _) (zda _) (by unfold maxLen;omega) (by omega) (by simp;omega) ?_)
   intro v' w1 hown' hgrow _
   have hb1:=zeL hown hsz hnx hgrow
   clear hgrow
   go_wp2
   go_ret
   refine⟨v',rfl,?_,hb1⟩
   rw [HL.out,zdR s f k hlt]
   simpa using hown'
end Go.Proofs.YtfpgjkbjbbgciaaGreatDoor
