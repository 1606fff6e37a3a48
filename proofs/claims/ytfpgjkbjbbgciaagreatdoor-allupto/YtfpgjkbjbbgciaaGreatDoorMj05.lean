import Derived.Test.YtfpgjkbjbbgciaaGreatDoorMj00
import Derived.Test.YtfpgjkbjbbgciaaGreatDoorMj02
import Derived.Test.YtfpgjkbjbbgciaaGreatDoorMj03
set_option maxRecDepth 100000
set_option maxHeartbeats 8000000
namespace Go.Proofs.YtfpgjkbjbbgciaaGreatDoor
namespace Sp
def numL:List UInt8→Int→Option Int
 | [],n=>some n
 | c :: r,n=>if zdo n ((c.toNat:Int)-48)=true then none else numL r (10*n-((c.toNat:Int)-48))
theorem zkr(s:ByteArray)(i:Nat)(h:i<s.size):∃ c r,s.data.toList.drop i=c :: r∧(c.toNat:Int)=bt s i∧r=s.data.toList.drop (i+1):=by
 have a:i<s.data.toList.length:=by simpa using h
 refine⟨s.data.toList[i],s.data.toList.drop (i+1),List.drop_eq_getElem_cons a,?_,rfl⟩;unfold bt;have b:i<s.data.size:=h;rw [Array.getElem?_eq_getElem b];simp
theorem zhO(s:ByteArray)(i:Nat)(n:Int):zcQ s i n=numL (s.data.toList.drop i) n:=by
 by_cases h:i<s.size
 ·obtain⟨c,r,h1,a,b⟩:=zkr s i h;rw [h1];cases hb:zdo n (bt s i-48) with
  | true=>rw [zeC s i n h hb];simp [numL,a,hb]
  | false =>
   rw [zdX s i n h (by simp [hb]),zhO s (i+1),←b];simp [numL,a,hb]
 ·rw [zdW s i n h,List.drop_of_length_le (by simpa using h)];rfl
termination_by s.size-i
def zbh:List UInt8→Bool
 | []=>true
 | c :: r=>decide (48≤c.toNat∧c.toNat≤57)&&zbh r
theorem zpN(a:Nat)(d:Int)(h0:0≤d)(h9:d≤9):zdo (-(a:Int)) d=decide (9223372036854775808<10*(a:Int)+d):=by
 unfold zdo;rw [zh0 d h9];by_cases h:9223372036854775808<10*(a:Int)+d
 ·have:-(a:Int) < -((9223372036854775808-d)/10):=by omega
  simp [h,this]
 ·have:¬-(a:Int) < -((9223372036854775808-d)/10):=by omega
  have b:¬d<0:=by omega
  have c:¬9<d:=by omega
  simp [h,this,b,c]
theorem zne(M:Nat)(l:List UInt8)(a u:Nat)(h:Lib.parseUintM M a l=.ok u):a≤u:=by
 induction l generalizing a with
 | nil=>simp [Lib.parseUintM] at h;omega
 | cons c r ih =>
  unfold Lib.parseUintM at h;split at h
  ·split at h
   ·cases h
   ·split at h
    ·cases h
    ·have:=ih _ h;omega
  ·cases h
def ze7:Lib.NumEnd Nat→Option Int
 | .ok u=>if u≤9223372036854775808 then some (-(u:Int)) else none
 | _=>none
theorem zo5(l:List UInt8)(a:Nat)(hd:zbh l=true)(ha:a≤9223372036854775808):numL l (-(a:Int))=ze7 (Lib.parseUintM (2 ^ 64-1) a l):=by
 induction l generalizing a with
 | nil=>simp [numL,Lib.parseUintM,ze7,ha]
 | cons c r ih =>
  simp only [zbh,Bool.and_eq_true,decide_eq_true_eq] at hd;obtain⟨d,f⟩:=hd;unfold numL Lib.parseUintM;rw [if_pos d,zpN a _ (by omega) (by omega)];by_cases b:9223372036854775808<10*(a:Int)+((c.toNat:Int)-48)
  ·rw [if_pos (by simpa using b)];split
   ·rfl
   ·split
    ·rfl
    ·cases he:Lib.parseUintM (2 ^ 64-1) (a*10+(c.toNat-48)) r with
     | ok u =>
      have:=zne _ _ _ _ he;simp [ze7];omega
     | «syntax»=>rfl
     | range=>rfl
  ·rw [if_neg (by simpa using b),if_neg (by omega),if_neg (by omega)];have e:10 * -(a:Int)-((c.toNat:Int)-48)=-((a*10+(c.toNat-48):Nat):Int):=by omega
   rw [e];exact ih _ f (by omega)
theorem zo6(l:List UInt8)(n:Int)(hd:zbh l=false):numL l n=none:=by
 induction l generalizing n with
 | nil=>simp [zbh] at hd
 | cons c r ih =>
  unfold numL;cases hb:zdo n ((c.toNat:Int)-48) with
  | true=>rfl
  | false =>
   have a:zbh r=false:=by
    simp only [zbh] at hd;have hc:48≤c.toNat∧c.toNat≤57:=by
     simp [zdo] at hb;omega
    simpa [hc] using hd
   simp only [Bool.false_eq_true,if_false];exact ih _ a
def bare(l:List UInt8):List UInt8:=match l with|45 :: r=>r|l=>l
theorem zjy(s:ByteArray):zd7 s=(match s.data.toList with|45 :: _=>true|_=>false):=by
 by_cases h:0<s.size
 ·obtain⟨c,r,b,d,_⟩:=zkr s 0 h;rw [List.drop_zero] at b;rw [b];unfold zd7;rw [←d];by_cases a:c=45
  ·subst a;simp [h]
  ·have:¬(c.toNat:Int)=45:=by
    intro e;apply a;exact UInt8.toNat_inj.1 (by simp;omega)
   simp [h,this];split
   ·rename_i heq;simp at heq;exact absurd heq.1 a
   ·rfl
 ·have h0:s.data.toList=[]:=List.eq_nil_of_length_eq_zero (by simpa using h);rw [h0];simp [zd7,h]
theorem zvq(s:ByteArray)(h:zbh (bare s.data.toList)=false):(zaI s).2=false:=by
 have a:=zjy s;unfold zaI;split at a
 ·rename_i r heq;rw [a,if_pos rfl];rw [heq] at h;split
  ·rfl
  ·rw [zhO,heq];simp only [List.drop_succ_cons,List.drop_zero];rw [zo6 r 0 (by simpa [bare] using h)];rfl
 ·rename_i hne;rw [a,if_neg (by simp)];have hb:bare s.data.toList=s.data.toList:=by
   unfold bare;split
   ·rename_i r heq;exact absurd heq (hne r)
   ·rfl
  rw [hb] at h;split
  ·rfl
  ·rw [zhO,List.drop_zero,zo6 _ 0 h];rfl
theorem zvr(s:ByteArray)(h:zbh (bare s.data.toList)=true):(∀ v,Lib.parseIntB 64 s.data.toList=.ok v→zaI s=(v,true))∧(Lib.parseIntB 64 s.data.toList=.«syntax»→(zaI s).2=false)∧(Lib.parseIntB 64 s.data.toList=.range→(zaI s).2=false):=by
 have w:=zjy s;have d:s.data.toList.length=s.size:=by simp
 split at w
 ·rename_i r heq;have q:zbh r=true:=by rw [heq] at h;simpa [bare] using h
  rw [heq] at d ⊢;have e:zaI s=if s.size=1 then(0,false) else zb5 true (zcQ s 1 0):=by unfold zaI;rw [w,if_pos rfl]
  rw [e,zhO,heq];simp only [List.drop_succ_cons,List.drop_zero];have f:=zo5 r 0 q (by omega);simp only [Int.ofNat_zero,Int.neg_zero] at f;rw [f];simp only [List.length_cons] at d;have p:Lib.parseIntB 64 (45 :: r)=(match Lib.parseUintB 64 r with|.«syntax»=>.«syntax»|.range=>.range|.ok u=>if 9223372036854775808<u then .range else .ok (-(u:Int))):=by
   unfold Lib.parseIntB;simp;cases Lib.parseUintB 64 r <;> rfl
  rw [p];unfold Lib.parseUintB;by_cases n:r=[]
  ·subst n;have:s.size=1:=by simp at d;omega
   simp [this]
  ·have m:¬s.size=1:=by cases r with|nil=>exact absurd rfl n|cons a b=>simp at d;omega
   rw [if_neg n,if_neg m];cases he:Lib.parseUintM (2 ^ 64-1) 0 r with
   | «syntax»=>simp [ze7,zb5]
   | range=>simp [ze7,zb5]
   | ok u =>
    by_cases k:u≤9223372036854775808
    ·have j:¬9223372036854775808<u:=by omega
     simp [ze7,k,j,zb5]
    ·have j:9223372036854775808<u:=by omega
     simp [ze7,k,j,zb5]
 ·rename_i hne;have hb:bare s.data.toList=s.data.toList:=by
   unfold bare;split
   ·rename_i r heq;exact absurd heq (hne r)
   ·rfl
  rw [hb] at h;have e:zaI s=if s.size=0 then(0,false) else zb5 false (zcQ s 0 0):=by unfold zaI;rw [w,if_neg (by simp)]
  rw [e,zhO,List.drop_zero];have f:=zo5 s.data.toList 0 h (by omega);simp only [Int.ofNat_zero,Int.neg_zero] at f;rw [f];generalize s.data.toList=l at *;cases l with
  | nil =>
   have:s.size=0:=by simpa using d.symm
   simp [this,Lib.parseIntB]
  | cons c r =>
   have m:¬s.size=0:=by simp at d;omega
   rw [if_neg m];simp only [zbh,Bool.and_eq_true,decide_eq_true_eq] at h;have c1:¬c.toNat=43:=by omega
   have t:¬c.toNat=45:=by omega
   have p:Lib.parseIntB 64 (c :: r)=(match Lib.parseUintB 64 (c :: r) with|.«syntax»=>.«syntax»|.range=>.range|.ok u=>if 9223372036854775808≤u then .range else .ok (u:Int)):=by
    unfold Lib.parseIntB;simp [c1,t];cases Lib.parseUintB 64 (c :: r) <;> rfl
   rw [p];unfold Lib.parseUintB;rw [if_neg (by simp)];cases he:Lib.parseUintM (2 ^ 64-1) 0 (c :: r) with
   | «syntax»=>simp [ze7,zb5]
   | range=>simp [ze7,zb5]
   | ok u =>
    by_cases k:9223372036854775808≤u
    ·by_cases g:u≤9223372036854775808
     ·have i:u=9223372036854775808:=by omega
      subst i;simp [ze7,zb5,least]
     ·simp [ze7,zb5,k,g]
    ·have g:u≤9223372036854775808:=by omega
     have i:¬(-(u:Int))=least:=by unfold least;omega
     have o:least < -(u:Int):=by unfold least;omega
     simp [ze7,zb5,k,g,i,o]
end Sp
section
open Go.RowKit Sp
abbrev zak(e l:Int):Ending:=.panicked [{ v:=.iface 115 (.agg #[.int .i64 e,.int .i64 l]),recovered:=false }]
theorem za1(e l:Int)(w:World):qC 79 #[.int .i64 e,.int .i64 l] w fun en w'=>en=zak e l∧w'=w:=by
 go_enter Tryz.func79,Tryz.ntmps79;go_wp2;exact⟨rfl,rfl,rfl⟩
theorem zeB{k:IntKind}{a c:Int}{b d:Bool}(h:a=c)(h':b=d):Ending.returned (.tuple #[.int k a,.bool b])=.returned (.tuple #[.int k c,.bool d]):=by rw [h,h']
def zft(s:ByteArray):Bool:=decide (0≤reg s)
def zaH(s:ByteArray):Int:=if 0≤reg s then reg s else 0
theorem zkp(s:ByteArray)(w:World)(_hs:s.size≤maxLen):
  qC 165 #[.string s] w fun e w'=>e=.returned (.tuple #[.int .i64 (zaH s),.bool (zft s)])∧w'=w:=by
 unfold maxLen at _hs;have i:¬(s.size=2∧bt s 0=114∧48≤bt s 1∧bt s 1≤55)→(0:Int)=zaH s∧false=zft s:=by
  intro h;have e:=zkY s h;unfold zaH zft;rw [←e];simp
 have a:(h:s.size=2)→(g:bt s 0=114)→(d:48≤bt s 1)→(f:bt s 1≤55)→bt s 1-48=zaH s∧true=zft s:=by
  intro h g d f;have e:=zrX s h g d f;unfold zaH zft;rw [←e,if_pos (by omega)];simp;omega
 have m:=Hid.out (p:=¬(s.size=2∧bt s 0=114∧48≤bt s 1∧bt s 1≤55)→(0:Int)=zaH s∧false=zft s) i;have c:Hid (¬(s.size=2∧bt s 0=114∧48≤bt s 1∧bt s 1≤55)→(0:Int)=zaH s∧false=zft s):=i;have b:Hid ((h:s.size=2)→(g:bt s 0=114)→(d:48≤bt s 1)→(f:bt s 1≤55)→bt s 1-48=zaH s∧true=zft s):=a;clear i a m;by_cases h:s.size=2
 ·have l:Hid (((s[0]'(by omega)).toNat:Int)=bt s 0):=zdU s 0 (by omega);have k:Hid (((s[1]'(by omega)).toNat:Int)=bt s 1):=zdU s 1 (by omega);have b0:0≤((s[1]'(by omega)).toNat:Int):=by omega
  have b1:((s[1]'(by omega)).toNat:Int)≤255:=by have:=(s[1]'(by omega)).toNat_lt;omega
  go_enter Tryz.func165,Tryz.ntmps165;go_wp2
  go_ways
  all_goals go_ret2
  all_goals have e0:=l.out
  all_goals have j:=k.out
  all_goals first
   | (have q:=c.out (by omega);exact⟨zeB q.1 q.2,rfl⟩)
   | (have q:=b.out h (by omega) (by omega) (by omega);exact⟨zeB (by rw [←q.1,←j]) q.2,rfl⟩)
 ·go_enter Tryz.func165,Tryz.ntmps165;go_wp2;go_ret2;have q:=c.out (by omega);exact⟨zeB q.1 q.2,rfl⟩
structure LibW(w:World):Prop where
 tabs:Lib.Utf8Tabs 1 2 w
 most:∃ m,w.cell? ⟨0,0,none⟩=some (.int .i64 m)
 syn:∃ tp p,w.var? Tryz.prog "strconv.ErrSyntax" = some #[.iface tp p]
 rng:∃ tp p,w.var? Tryz.prog "strconv.ErrRange" = some #[.iface tp p]
 low:8≤w.heap.size
theorem zeY(s:ByteArray)(pos:Nat)(w:World)(hw:Lib.Utf8Tabs 1 2 w)(hp:pos<s.size):
  qC 126 #[.string (s.extract pos s.size)] w (qR w (.bool (((Utf8.decode s pos).2:Int) == 1))):=by
 have hd:Lib.decodeGo (s.extract pos s.size)=Utf8.decode s pos:=by
  unfold Lib.decodeGo;rw [if_neg (by rw [ByteArray.size_extract];omega)];exact Lib.tail_decode s pos 0
 have b:=Tryz.utf8_DecodeRuneInString (s.extract pos s.size) w hw;rw [hd] at b;have a:(Utf8.decode s pos).2≤4:=by
  by_cases c:(chr s pos).1=0
  ·rw [(zg3 s pos).1 c];decide
  ·rw [(zg3 s pos).2 c];have:=zcN s pos hp c;show(chr s pos).1.toNat≤4;omega
 generalize Utf8.decode s pos=d at b a;go_enter Tryz.func126,Tryz.ntmps126;go_wp2_with(go_at_call 146;refine b.mono ?_;rintro e w' ⟨rfl,f⟩)
 go_ret;exact⟨rfl,f⟩
end
namespace Sp
def pre(p:List UInt8):List (List UInt8)→List (List UInt8)
 | h :: t=>(p++h) :: t
 | []=>[p]
def zec:List UInt8→List (List UInt8)
 | []=>[[]]
 | c :: r=>if c=10 then [] :: zec r else pre [c] (zec r)
theorem zsO(l:List (List UInt8))(h:l≠[]):pre [] l=l:=by
 cases l with
 | nil=>exact absurd rfl h
 | cons a b=>rfl
theorem zlr(l:List UInt8):zec l≠[]:=by
 cases l with
 | nil=>simp [zec]
 | cons c r =>
  unfold zec;split
  ·simp
  ·cases zec r <;> simp [pre]
theorem zxK(p q:List UInt8)(l:List (List UInt8)):pre p (pre q l)=pre (p++q) l:=by
 cases l <;> simp [pre]
theorem znq(s:ByteArray)(f i:Nat)(hf:f≤i)(hi:i≤s.size):(zci s f i).map (·.data.toList)=pre ((s.data.toList.drop f).take (i-f)) (zec (s.data.toList.drop i)):=by
 by_cases h:i<s.size
 ·obtain⟨c,r,d,j,g⟩:=zkr s i h;by_cases a:bt s i=10
  ·rw [zem s f i h a,List.map_cons,znq s (i+1) (i+1) (by omega) (by omega),d,←g];have b:c=10:=by
    apply UInt8.toNat_inj.1;have:(c.toNat:Int)=10:=by omega
    simp;omega
   subst b;simp only [Nat.sub_self,List.take_zero];rw [zsO _ (zlr _)];simp [zec,pre]
  ·rw [zeZ s f i h a,znq s f (i+1) (by omega) (by omega),d,←g];have b:¬c=10:=by
    intro e;apply a;rw [←j,e];rfl
   simp only [zec,b,if_false];rw [zxK];congr 1;have e:i+1-f=(i-f)+1:=by omega
   rw [e,List.take_add_one];congr 1;rw [List.getElem?_drop];have e2:f+(i-f)=i:=by omega
   rw [e2];have h5:s.data.toList[i]?=some c:=by
    have:(s.data.toList.drop i)[0]?=some c:=by rw [d];rfl
    rw [List.getElem?_drop] at this;simpa using this
   rw [h5];rfl
 ·have k:i=s.size:=by omega
  rw [zel s f i h];have hl:s.data.toList.drop i=[]:=List.drop_of_length_le (by simp;omega);rw [hl];simp [zec,pre,k]
termination_by s.size-i
theorem zxL(l:List UInt8):Lib.splitK [10] 0 (Lib.count l [10]) l=zec l:=by
 induction l with
 | nil=>rw [Lib.count_miss (by simp [Lib.index])];rfl
 | cons c r ih =>
  by_cases a:c=10
  ·subst a;rw [Lib.count_cons_eq,Nat.add_comm];have b:Lib.index (10 :: r) [10]=0:=by rw [Lib.index];simp [List.isPrefixOf]
   unfold Lib.splitK;rw [b];simp only [zec,if_true];rw [←ih];simp
  ·rw [Lib.count_cons_ne c 10 r a];have f:([10]:List UInt8).isPrefixOf (c :: r)=false:=by simp [List.isPrefixOf,Ne.symm a]
   have b:Lib.index (c :: r) [10]=if Lib.index r [10] == -1 then -1 else Lib.index r [10]+1:=by rw [Lib.index,f];simp
   simp only [zec,a,if_false];rw [←ih];by_cases h:Lib.index r [10]=-1
   ·rw [Lib.count_miss h];rfl
   ·have hge:=Lib.index_ge r [10];obtain⟨j,d⟩:∃ j:Nat,Lib.index r [10]=j:=⟨(Lib.index r [10]).toNat,by omega⟩
    rw [Lib.count_hit (by simp) d,Nat.add_comm];unfold Lib.splitK;rw [b,d];have b1:(((j:Nat):Int) == -1)=false:=by simp
    have e:(((j:Nat):Int)+1 == -1)=false:=by simp;omega
    simp only [b1,e,if_false,Bool.false_eq_true];have e1:((j:Int)+1).toNat=j+1:=by omega
    have g:((j:Nat):Int).toNat=j:=by omega
    rw [e1,g];simp [pre]
theorem zie(s:ByteArray):Lib.splitB ⟨#[10]⟩ 0 (Lib.countB s ⟨#[10]⟩) s=lines s:=by
 have d:(Lib.splitB ⟨#[10]⟩ 0 (Lib.countB s ⟨#[10]⟩) s).map (·.data.toList)=(lines s).map (·.data.toList):=by
  rw [Lib.splitB_data];have c:=znq s 0 0 (by omega) (by omega);simp only [List.drop_zero,Nat.sub_self,List.take_zero] at c;rw [zsO _ (zlr _)] at c;show Lib.splitK [10] 0 (Lib.count s.data.toList [10]) s.data.toList=(zci s 0 0).map _;rw [c,zxL]
 refine(List.map_inj_right ?_).1 d;intro a b h;exact ByteArray.ext (Array.ext' h)
theorem zf8(s:ByteArray):(lines s).length=Lib.countByte s.data.toList 10+1∧Lib.countB s ⟨#[10]⟩+1=(lines s).length:=by
 have h:=Lib.splitB_all ⟨#[10]⟩ (by decide) 0 _ s rfl;rw [zie] at h;refine⟨?_,h.symm⟩;rw [h];unfold Lib.countByte;rw [←Lib.count_one]
end Sp
end Go.Proofs.YtfpgjkbjbbgciaaGreatDoor
