import Derived.Test.YtfpgjkbjbbgciaaGreatDoorMj01
import Derived.Lib.DecodeN
import Derived.WalkSpells
import Derived.WalkLawsBesides
import Derived.Lib.OthersKept
import Derived.Lib.Strings
import Derived.Shelf.Small.Wraps
import Derived.Shelf.LaysM
import Derived.Shelf.LaysC
import Derived.Shelf.Strconv.ParseIntPublic10
import Derived.Shelf.Strconv.ErrVarParseInt
import Derived.Shelf.Strings.Count
import Derived.Shelf.Strings.Prefix
import Derived.Shelf.Strings.Split
import Derived.Shelf.Unicode.DecodeAny
import Derived.Lib.ParseIntB
import Derived.Lib.RuneCountTail
import Derived.WalkSmall
import Derived.Lib.AtoiErrMem
import Derived.Deep.Light
import Derived.Lib.SplitLaws
import Derived.Defers
import Derived.Recover
import Derived.Maps.Own
import Derived.Maps.OwnOps
import Derived.Maps.OwnSet
import Derived.Maps.AppendAt
import Derived.Maps.Views
import Derived.Deep.AppendLies
import Derived.Deep.RegionHeld3
import Derived.Deep.DrawnRows
import Derived.RegionDies
import Derived.Maps.RangeWalk
import Derived.Test.YtfpgjkbjbbgciaaGreatDoorChecked
import Derived.Test.YtfpgjkbjbbgciaaGreatDoorRows
import Derived.Lib.LaidIn
import Derived.Lib.LaidU8T
import Derived.PinnedBridge
import Derived.Stop.LaidErr
import Derived.Deep.DeepHandedRow
import Derived.Deep.DeepWitnessRowRef
import Derived.ProofKit
import Derived.Shelf.Vars
import Derived.SizedLaws
import Derived.Test.YtfpgjkbjbbgciaaGreatDoorCards
import Derived.Test.YtfpgjkbjbbgciaaGreatDoorTie
import Derived.Deep.DeepLaidRun
import Derived.OpenShut
set_option maxRecDepth 100000
set_option maxHeartbeats 8000000
namespace Go.Proofs.YtfpgjkbjbbgciaaGreatDoor
namespace Sp
theorem zko(s:ByteArray)(i k:Nat)(v u:Int)(h:zbW s i k v=some u):i+k≤s.size∨k=0:=by
 induction k generalizing i v with
 | zero=>exact .inr rfl
 | succ k ih =>
  unfold zbW at h;split at h
  ·rename_i hc;rcases ih _ _ h with a|a
   ·exact .inl (by omega)
   ·subst a;exact .inl (by omega)
  ·cases h
theorem zbX(n least:Int)(o:Option Int):(zaZ n least o=(0,0))∨(∃ v,o=some v∧zaZ n least o=(n,v)∧least≤v∧v≤1114111):=by
 cases o with
 | none=>exact .inl rfl
 | some v =>
  by_cases h:v<least∨1114111<v∨(55296≤v∧v≤57343)
  ·exact .inl (if_pos h)
  ·exact .inr ⟨v,rfl,if_neg h,by omega,by omega⟩
theorem zxs(s:ByteArray)(i:Nat)(hi:i<s.size):chr s i=(0,0)∨(1≤(chr s i).1∧(chr s i).1≤4∧i+(chr s i).1≤s.size∧0≤(chr s i).2∧(chr s i).2≤1114111):=by
 have f:=zyW s i;unfold chr;split
 ·exact .inr ⟨by simp,by simp,by simp;omega,by simpa using f.1,by simp;omega⟩
 split
 ·rcases zbX 2 128 (zbW s (i+1) 1 (bt s i-192)) with h|⟨v,b,d,e,a⟩
  ·exact .inl h
  ·rw [d];rcases zko _ _ _ _ _ b with h|h
   ·exact .inr ⟨by simp,by simp,by simp;omega,by simp;omega,by simpa using a⟩
   ·omega
 split
 ·rcases zbX 3 2048 (zbW s (i+1) 2 (bt s i-224)) with h|⟨v,b,d,e,a⟩
  ·exact .inl h
  ·rw [d];rcases zko _ _ _ _ _ b with h|h
   ·exact .inr ⟨by simp,by simp,by simp;omega,by simp;omega,by simpa using a⟩
   ·omega
 split
 ·rcases zbX 4 65536 (zbW s (i+1) 3 (bt s i-240)) with h|⟨v,b,d,e,a⟩
  ·exact .inl h
  ·rw [d];rcases zko _ _ _ _ _ b with h|h
   ·exact .inr ⟨by simp,by simp,by simp;omega,by simp;omega,by simpa using a⟩
   ·omega
 ·exact .inl rfl
def chrN(s:ByteArray)(i:Nat):Nat:=(chr s i).1.toNat
theorem zcN(s:ByteArray)(i:Nat)(hi:i<s.size)(h:¬(chr s i).1=0):((chrN s i:Nat):Int)=(chr s i).1∧1≤chrN s i∧chrN s i≤4∧i+chrN s i≤s.size∧0≤(chr s i).2∧(chr s i).2≤1114111:=by
 rcases zxs s i hi with h'|h'
 ·rw [h'] at h;simp at h
 ·unfold chrN;omega
def zau(s:ByteArray)(i:Nat):Bool :=
 if _hi:i<s.size then
  if _h:(chr s i).1=0 then false else zau s (i+chrN s i)
 else true
termination_by s.size-i
decreasing_by have:=zcN s i _hi _h;omega
theorem zhI(s:ByteArray)(i:Nat)(h:¬i<s.size):zau s i=true:=by
 rw [zau,dif_neg h]
theorem zhJ(s:ByteArray)(i:Nat)(h:i<s.size)(h0:(chr s i).1=0):zau s i=false:=by
 rw [zau,dif_pos h,dif_pos h0]
theorem zhb(s:ByteArray)(i:Nat)(h:i<s.size)(h0:¬(chr s i).1=0):zau s i=zau s (i+chrN s i):=by
 rw [zau,dif_pos h,dif_neg h0]
def zcO(c:Int):Bool:=decide (97≤c∧c≤122∨c=95∨945≤c∧c≤969)
def zbf(c:Int):Bool:=decide (48≤c∧c≤57)
def zcY(s:ByteArray)(i:Nat)(c:Nat):Option Nat :=
 if hi:i<s.size then
  if h:(chr s i).1=0 then none
  else if zcO (chr s i).2=true∨(zbf (chr s i).2=true∧¬i=0) then zcY s (i+chrN s i) (c+1) else none
 else some c
termination_by s.size-i
decreasing_by have:=zcN s i hi h;omega
def zcP:Option Nat→Bool
 | none=>false
 | some c=>decide (1≤c∧c≤12)
def za8(s:ByteArray):Bool:=zcP (zcY s 0 0)
theorem zjr(s:ByteArray)(i c:Nat)(h:¬i<s.size):zcY s i c=some c:=by
 rw [zcY,dif_neg h]
theorem zjs(s:ByteArray)(i c:Nat)(h:i<s.size)(h0:(chr s i).1=0):zcY s i c=none:=by
 rw [zcY,dif_pos h,dif_pos h0]
theorem zfy(s:ByteArray)(i c:Nat)(h:i<s.size)(h0:¬(chr s i).1=0)(h1:zcO (chr s i).2=true∨(zbf (chr s i).2=true∧¬i=0)):zcY s i c=zcY s (i+chrN s i) (c+1):=by
 rw [zcY,dif_pos h,dif_neg h0,if_pos h1]
theorem zg2(s:ByteArray)(i c:Nat)(h:i<s.size)(h0:¬(chr s i).1=0)(h1:¬(zcO (chr s i).2=true∨(zbf (chr s i).2=true∧¬i=0))):zcY s i c=none:=by
 rw [zcY,dif_pos h,dif_neg h0,if_neg h1]
theorem zoz(s:ByteArray)(j:Nat):bt s j=((s.get! j).toNat:Int):=by
 unfold bt ByteArray.get!;cases h:s.data[j]? with
 | none =>
  have:¬j<s.data.size:=by
   intro a;rw [Array.getElem?_eq_getElem a] at h;cases h
  simp [getElem!_def,h];rfl
 | some v=>simp [getElem!_def,h]
def chrB(i z:Nat)(b0 b1 b2 b3:Int):Int × Int :=
 if b0<128 then(1,b0)
 else if 194≤b0∧b0<224 then zaZ 2 128 (if i+1<z∧128≤b1∧b1≤191 then some (64*(b0-192)+b1-128) else none)
 else if 224≤b0∧b0<240 then zaZ 3 2048 (if i+1<z∧128≤b1∧b1≤191 then(if i+1+1<z∧128≤b2∧b2≤191 then some (64*(64*(b0-224)+b1-128)+b2-128) else none) else none)
 else if 240≤b0∧b0<245 then zaZ 4 65536 (if i+1<z∧128≤b1∧b1≤191 then(if i+1+1<z∧128≤b2∧b2≤191 then(if i+1+1+1<z∧128≤b3∧b3≤191 then some (64*(64*(64*(b0-240)+b1-128)+b2-128)+b3-128) else none) else none) else none)
 else(0,0)
theorem zzL(s:ByteArray)(i:Nat):chr s i=chrB i s.size (bt s i) (bt s (i+1)) (bt s (i+2)) (bt s (i+3)):=rfl
theorem decB(i z b0 b1 b2 b3:Nat)(h0:b0<256)(h1:b1<256)(h2:b2<256)(h3:b3<256):
  ((chrB i z b0 b1 b2 b3).1=0→Lib.decodeN (z-i) b0 b1 b2 b3=(65533,1))∧(¬(chrB i z b0 b1 b2 b3).1=0→Lib.decodeN (z-i) b0 b1 b2 b3=((chrB i z b0 b1 b2 b3).2.toNat,(chrB i z b0 b1 b2 b3).1.toNat)):=by
 unfold chrB;split
 ·refine⟨fun h=>absurd h (by simp),fun _=>?_⟩;unfold Lib.decodeN;rw [if_pos (by omega)];exact Prod.ext (by simp) rfl
 split
 ·split
  ·by_cases a:64*((b0:Int)-192)+b1-128<128∨1114111<64*((b0:Int)-192)+b1-128∨(55296≤64*((b0:Int)-192)+b1-128∧64*((b0:Int)-192)+b1-128≤57343)
   ·rw [zaZ,if_pos a];refine⟨fun _=>?_,fun h=>absurd rfl h⟩;unfold Lib.decodeN
    repeat' split
    all_goals first|rfl|(exfalso;omega)
   ·rw [zaZ,if_neg a];refine⟨fun h=>absurd h (by simp),fun _=>?_⟩;unfold Lib.decodeN
    repeat' split
    all_goals first|(exfalso;omega)|(apply Prod.ext <;> simp only <;> omega)
  ·refine⟨fun _=>?_,fun h=>absurd rfl h⟩;unfold Lib.decodeN
   repeat' split
   all_goals first|rfl|(exfalso;omega)
 split
 ·split
  ·split
   ·by_cases a:64*(64*((b0:Int)-224)+b1-128)+b2-128<2048∨1114111<64*(64*((b0:Int)-224)+b1-128)+b2-128∨(55296≤64*(64*((b0:Int)-224)+b1-128)+b2-128∧64*(64*((b0:Int)-224)+b1-128)+b2-128≤57343)
    ·rw [zaZ,if_pos a];refine⟨fun _=>?_,fun h=>absurd rfl h⟩;unfold Lib.decodeN
     repeat' split
     all_goals first|rfl|(exfalso;omega)
    ·rw [zaZ,if_neg a];refine⟨fun h=>absurd h (by simp),fun _=>?_⟩;unfold Lib.decodeN
     repeat' split
     all_goals first|(exfalso;omega)|(apply Prod.ext <;> simp only <;> omega)
   ·refine⟨fun _=>?_,fun h=>absurd rfl h⟩;unfold Lib.decodeN
    repeat' split
    all_goals first|rfl|(exfalso;omega)
  ·refine⟨fun _=>?_,fun h=>absurd rfl h⟩;unfold Lib.decodeN
   repeat' split
   all_goals first|rfl|(exfalso;omega)
 split
 ·split
  ·split
   ·split
    ·by_cases a:64*(64*(64*((b0:Int)-240)+b1-128)+b2-128)+b3-128<65536∨1114111<64*(64*(64*((b0:Int)-240)+b1-128)+b2-128)+b3-128∨(55296≤64*(64*(64*((b0:Int)-240)+b1-128)+b2-128)+b3-128∧64*(64*(64*((b0:Int)-240)+b1-128)+b2-128)+b3-128≤57343)
     ·rw [zaZ,if_pos a];refine⟨fun _=>?_,fun h=>absurd rfl h⟩;unfold Lib.decodeN
      repeat' split
      all_goals first|rfl|(exfalso;omega)
     ·rw [zaZ,if_neg a];refine⟨fun h=>absurd h (by simp),fun _=>?_⟩;unfold Lib.decodeN
      repeat' split
      all_goals first|(exfalso;omega)|(apply Prod.ext <;> simp only <;> omega)
    ·refine⟨fun _=>?_,fun h=>absurd rfl h⟩;unfold Lib.decodeN
     repeat' split
     all_goals first|rfl|(exfalso;omega)
   ·refine⟨fun _=>?_,fun h=>absurd rfl h⟩;unfold Lib.decodeN
    repeat' split
    all_goals first|rfl|(exfalso;omega)
  ·refine⟨fun _=>?_,fun h=>absurd rfl h⟩;unfold Lib.decodeN
   repeat' split
   all_goals first|rfl|(exfalso;omega)
 ·refine⟨fun _=>?_,fun h=>absurd rfl h⟩;unfold Lib.decodeN
  repeat' split
  all_goals first|rfl|(exfalso;omega)
theorem zg3(s:ByteArray)(i:Nat):((chr s i).1=0→Utf8.decode s i=(65533,1))∧(¬(chr s i).1=0→Utf8.decode s i=((chr s i).2.toNat,(chr s i).1.toNat)):=by
 rw [zzL,Lib.decode_at,zoz s i,zoz s (i+1),zoz s (i+2),zoz s (i+3)];exact decB i s.size _ _ _ _ (s.get! i).toNat_lt (s.get! (i+1)).toNat_lt (s.get! (i+2)).toNat_lt (s.get! (i+3)).toNat_lt
def zci(s:ByteArray)(from0 i:Nat):List ByteArray :=
 if i<s.size then
  if bt s i=10 then s.extract from0 i :: zci s (i+1) (i+1) else zci s from0 (i+1)
 else [s.extract from0 s.size]
termination_by s.size-i
theorem zel(s:ByteArray)(from0 i:Nat)(h:¬i<s.size):zci s from0 i=[s.extract from0 s.size]:=by
 rw [zci,if_neg h]
theorem zem(s:ByteArray)(from0 i:Nat)(h:i<s.size)(h':bt s i=10):zci s from0 i=s.extract from0 i :: zci s (i+1) (i+1):=by
 rw [zci,if_pos h,if_pos h']
theorem zeZ(s:ByteArray)(from0 i:Nat)(h:i<s.size)(h':¬bt s i=10):zci s from0 i=zci s from0 (i+1):=by
 rw [zci,if_pos h,if_neg h']
def lines(s:ByteArray):List ByteArray:=zci s 0 0
def zo3(c:Int):Bool:=decide (c=32∨c=9∨c=59)
def zfz(now:ByteArray)(l:List ByteArray):List ByteArray:=if now.size=0 then l else l++[now]
def za9(s:ByteArray)(i:Nat)(now:ByteArray)(l:List ByteArray):List ByteArray :=
 if i<s.size then
  if zo3 (bt s i)=false then za9 s (i+1) (now++s.extract i (i+1)) l
  else if bt s i=59 then zfz now l
  else za9 s (i+1) ByteArray.empty (zfz now l)
 else zfz now l
termination_by s.size-i
def words(s:ByteArray):List ByteArray:=za9 s 0 ByteArray.empty []
theorem zdb(s:ByteArray)(i:Nat)(now:ByteArray)(l:List ByteArray)(h:¬i<s.size):za9 s i now l=zfz now l:=by
 rw [za9,if_neg h]
theorem zfa(s:ByteArray)(i:Nat)(now:ByteArray)(l:List ByteArray)(h:i<s.size)(h':¬(bt s i=32∨bt s i=9∨bt s i=59)):za9 s i now l=za9 s (i+1) (now++s.extract i (i+1)) l:=by
 rw [za9,if_pos h,if_pos (by simpa [zo3] using h')]
theorem zcI(s:ByteArray)(i:Nat)(now:ByteArray)(l:List ByteArray)(h:i<s.size)(h':bt s i=59):za9 s i now l=zfz now l:=by
 rw [za9,if_pos h,if_neg (by simp [zo3,h']),if_pos h']
theorem zbB(s:ByteArray)(i:Nat)(now:ByteArray)(l:List ByteArray)(h:i<s.size)(h':bt s i=32∨bt s i=9):za9 s i now l=za9 s (i+1) ByteArray.empty (zfz now l):=by
 rw [za9,if_pos h,if_neg (by simp [zo3];omega),if_neg (by omega)]
end Sp
section
open Go.ChangeShapes Go.WideShapes Go.ChangeAt Go.RowKit Sp
def zhG:DataW Unit→List Value
 | .agg l=>l.map fun
  | .lit (.int k n)=>Value.int k n
  | _=>Value.int .u8 0
 | _=>[]
noncomputable def laidWorld(os:Os):World :=
 let N:=(World.settled Tryz.prog os).heap.size
 let w0:=World.holding Tryz.prog os ⟨#[
  .cells #[.string ⟨#[105,110,118,97,108,105,100,32,115,121,110,116,97,120]⟩] 269,
  .cells #[.string ⟨#[118,97,108,117,101,32,111,117,116,32,111,102,32,114,97,110,103,101]⟩] 269],#[],[]⟩
 let put (h:Array Obj) (g:Nat) (cs:Array Value):Array Obj:=h.modify g fun
  | .cells _ t frozen=>.cells cs t frozen
  | o=>o
 let h1:=put w0.heap 1 (Lib.firstTab.map fun z=>Value.int .u8 z).toArray
 let h2:=put h1 2 ((List.range 16).flatMap fun i=>[Value.int .u8 (Lib.accLo i),Value.int .u8 (Lib.accHi i)]).toArray
 let h3:=put h2 3 #[.iface 267 (.pointer (some ⟨N,0,none⟩))]
 let h4:=put h3 4 #[.iface 267 (.pointer (some ⟨N+1,0,none⟩))]
 let h5:=put h4 5 (zhG Rows.laid_internal_strconv_uint64pow10).toArray
 let h6:=put h5 6 (zhG Rows.laid_math_bits_deBruijn32tab).toArray
 let h7:=put h6 7 (zhG Rows.laid_math_bits_deBruijn64tab).toArray
 { w0 with heap:=h7 }
theorem zvb(os:Os)(args:Array Value):laidMet Tryz.prog Rows.checksUptoRow.laid ((laidWorld os).forCall (fun _ _=>0) ⟨#[],args,[]⟩).memory :=
 laidMet_of_run3 8 (by kernel_rfl) (by kernel_rfl) (by kernel_rfl)
end
section
open Go.RowKit Sp
theorem Tryz.info9:(Tryz.prog.info? 9).map (fun i=>(i.zero,i.size,i.bytes))=some (some (.string ByteArray.empty),1,16):=by kernel_rfl
theorem Tryz.under67:Tryz.prog.underlying 67=some (.slice 9):=by kernel_rfl
theorem zfb{w wr w1:World}{B:Nat}{v:Value}{n:Nat}{xs:List Value}{o:Obj}(hown:wr.ownsRow B 9 1 v n xs)(hB:B≤wr.heap.size)(hb:Below B w wr)(hg:(wr.alloc o).grownBy w1 v.ownBlock):Below B w w1 :=
 (hb.alloc hB o).grown hg (by simp;omega) (fun k hk=>(hown.lt k hk).1)
theorem zdm(s:ByteArray):∀ u∈[Value.string s],u.oneCell'=true:=by
 intro u a;simp at a;subst a;rfl
theorem zse(s:ByteArray)(w:World)(hs:s.size≤1048576):
  qC 45 #[.string s] w fun e w'=>∃ v,e=.returned v∧w'.ownsRow w.heap.size 9 1 v (lines s).length ((lines s).map Value.string)∧qB w w':=by
 obtain⟨t,x,n,l,j⟩:=info_parts Tryz.info9;go_enter Tryz.func45,Tryz.ntmps45;go_wp2
 go_loopw [3,4,5] (fun v tf ti wr=>∃(k f:Nat) (c:List ByteArray),k≤s.size∧f≤k∧c.length≤k∧ti=.int .i64 (k:Int)∧tf=.int .i64 (f:Int)∧wr.ownsRow w.heap.size 9 1 v c.length (c.map Value.string)∧qB w wr∧lines s=c++zci s f k) (fun _ _ ti _=>s.size-(intOf ti).toNat)
 case atStart=>exact⟨0,0,[],by omega,by omega,by simp,rfl,rfl,World.ownsRow_nil _ _ _ _,Below.refl _ _,rfl⟩
 case round =>
  obtain⟨k,f,c,hk,hf,hacc,rfl,rfl,b,h,r⟩:=hrel;have HL:Hid (lines s=c++zci s f k):=r;clear r;have m:=h.size;by_cases g:k<s.size
  ·have hc0:0≤(s[k].toNat:Int):=by omega
   have hc1:(s[k].toNat:Int)≤255:=by have:=s[k].toNat_lt;omega
   have u:Hid ((s[k].toNat:Int)=bt s k):=zdU s k g;by_cases p:((s[k].toNat:Int) == 10)=true
   ·go_wp2_with(at_builtin;refine wpList_append_own _ rfl _ _ 67 rfl w.heap.size 9 t (.string ByteArray.empty) 1 16 Tryz.under67 x n l j rfl (by decide) _ _ _ rfl (b.alloc _) ⟨wr.heap.size,0,none⟩ 1 1 [.string (s.extract f k)] rfl rfl (cell_one_new _ _ _) (zdm _) (by unfold maxLen;omega) (by omega) (by simp;omega) ?_)
    intro q y d a _;have i:=zfb b m h a;clear a;go_wp2;go_roundw
    case rel=>exact⟨k+1,k+1,c++[s.extract f k],by omega,by omega,by simp;omega,by go_num,by go_num,by simpa using d,i,by rw [HL.out,zem s f k g (by have:=u.out;simp at p;omega)];simp⟩
    case measure=>simp [intOf];omega
   ·have o:((s[k].toNat:Int) == 10)=false:=by simpa using p
    go_wp2;go_roundw
    case rel=>exact⟨k+1,f,c,by omega,by omega,by omega,by go_num,rfl,b,h,by rw [HL.out,zeZ s f k g (by have:=u.out;simp at o;omega)]⟩
    case measure=>simp [intOf];omega
  ·go_wp2_with(at_builtin;refine wpList_append_own _ rfl _ _ 67 rfl w.heap.size 9 t (.string ByteArray.empty) 1 16 Tryz.under67 x n l j rfl (by decide) _ _ _ rfl (b.alloc _) ⟨wr.heap.size,0,none⟩ 1 1 [.string (s.extract f s.size)] rfl rfl (cell_one_new _ _ _) (zdm _) (by unfold maxLen;omega) (by omega) (by simp;omega) ?_)
   intro q y d a _;have i:=zfb b m h a;clear a;go_wp2;go_ret;refine⟨q,rfl,?_,i⟩;rw [HL.out,zel s f k g];simpa using d
end
end Go.Proofs.YtfpgjkbjbbgciaaGreatDoor
