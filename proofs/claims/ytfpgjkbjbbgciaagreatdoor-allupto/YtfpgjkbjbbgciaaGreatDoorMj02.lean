import Derived.Test.YtfpgjkbjbbgciaaGreatDoorMj01
import Derived.WalkSpells
import Derived.WalkLawsBesides
import Derived.Lib.Strings
set_option maxRecDepth 100000
set_option maxHeartbeats 8000000
namespace Go.Proofs.YtfpgjkbjbbgciaaGreatDoor
open Go.RowKit Sp
theorem zch{k:IntKind}{a b:Int}(h:a=b):Ending.returned (.int k a)=.returned (.int k b):=by rw [h]
theorem zkY(s:ByteArray)(h:¬(s.size=2∧bt s 0=114∧48≤bt s 1∧bt s 1≤55)):(-1:Int)=reg s:=by
 unfold reg regB;simp;omega
theorem zrX(s:ByteArray)(h:s.size=2)(h0:bt s 0=114)(h1:48≤bt s 1)(h2:bt s 1≤55):bt s 1-48=reg s:=by
 unfold reg regB;simp [h,h0,h1,h2]
theorem zmX(s:ByteArray)(w:World)(_hs:s.size≤maxLen):
  qC 75 #[.string s] w fun e w'=>e=.returned (.int .i64 (reg s))∧w'=w:=by
 unfold maxLen at _hs;by_cases h:s.size=2
 ·have b:=zdU s 0 (by omega);have a:=zdU s 1 (by omega);have c:Hid (((s[0]'(by omega)).toNat:Int)=bt s 0):=b;have d:Hid (((s[1]'(by omega)).toNat:Int)=bt s 1):=a;clear b a;go_enter Tryz.func75,Tryz.ntmps75;go_wp2;all_goals go_ret
  all_goals have b:=c.out
  all_goals have a:=d.out
  ·exact⟨zch (zkY s (by omega)),rfl⟩
  ·exact⟨zch (by rw [a];exact zrX s h (by omega) (by omega) (by omega)),rfl⟩
  ·exact⟨zch (zkY s (by omega)),rfl⟩
  ·exact⟨zch (zkY s (by omega)),rfl⟩
 ·go_enter Tryz.func75,Tryz.ntmps75;go_wp2;go_ret;exact⟨zch (zkY s (by omega)),rfl⟩
theorem zpF(s:ByteArray)(i k:Nat)(v:Int)(h:i<s.size)(h1:128≤bt s i)(h2:bt s i≤191):zbW s i (k+1) v=zbW s (i+1) k (64*v+bt s i-128):=by
 simp [zbW,h,h1,h2]
theorem zvc(s:ByteArray)(i k:Nat)(v:Int)(h:¬(i<s.size∧128≤bt s i∧bt s i≤191)):zbW s i (k+1) v=none:=by
 unfold zbW;rw [if_neg h]
theorem zpG(n least v:Int)(h:v<least∨1114111<v∨(55296≤v∧v≤57343)):zaZ n least (some v)=(0,0):=by
 unfold zaZ;exact if_pos h
theorem zmY(n least v:Int)(h:¬(v<least∨1114111<v∨(55296≤v∧v≤57343))):zaZ n least (some v)=(n,v):=by
 unfold zaZ;exact if_neg h
theorem zeX(s:ByteArray)(R:Int × Int)(n least v:Int)(j m:Nat)(hR:R=zaZ n least (zbW s j m v))(hm:0<m)(h:¬(j<s.size∧128≤bt s j∧bt s j≤191)):0=R.1∧0=R.2:=by
 obtain⟨k,rfl⟩:∃ k,m=k+1:=⟨m-1,by omega⟩
 rw [hR,zvc s j k v h];exact⟨rfl,rfl⟩
theorem zkn(s:ByteArray)(R:Int × Int)(n least v:Int)(j m:Nat)(hR:R=zaZ n least (zbW s j m v))(hm:0<m)(h0:j<s.size)(h1:128≤bt s j)(h2:bt s j≤191):R=zaZ n least (zbW s (j+1) (m-1) (64*v+bt s j-128)):=by
 obtain⟨k,rfl⟩:∃ k,m=k+1:=⟨m-1,by omega⟩
 rw [hR,zpF s j k v h0 h1 h2];rfl
theorem zmZ(s:ByteArray)(R:Int × Int)(n least v:Int)(j m:Nat)(hR:R=zaZ n least (zbW s j m v))(hm:m=0):R=zaZ n least (some v):=by
 subst hm;rw [hR];rfl
theorem zfx(R:Int × Int)(n least v:Int)(hR:R=zaZ n least (some v))(h:v<least∨1114111<v∨(55296≤v∧v≤57343)):0=R.1∧0=R.2:=by
 rw [hR,zpG _ _ _ h];exact⟨rfl,rfl⟩
theorem zeA(R:Int × Int)(n least v:Int)(hR:R=zaZ n least (some v))(h:¬(v<least∨1114111<v∨(55296≤v∧v≤57343))):n=R.1∧v=R.2:=by
 rw [hR,zmY _ _ _ h];exact⟨rfl,rfl⟩
theorem zcC{k l:IntKind}{a b:Int}{R:Int × Int}(h:a=R.1∧b=R.2):Ending.returned (.tuple #[.int k a,.int l b])=.returned (.tuple #[.int k R.1,.int l R.2]):=by rw [h.1,h.2]
theorem zzH(s:ByteArray)(i:Nat)(R:Int × Int)(h:chr s i=R)(b:Int)(e:b=bt s i)(h1:b<128):(1:Int)=R.1∧b=R.2:=by
 subst e;rw [←h];unfold chr;rw [if_pos h1];exact⟨rfl,rfl⟩
theorem zzI(s:ByteArray)(i:Nat)(R:Int × Int)(h:chr s i=R)(b:Int)(e:b=bt s i)(h1:194≤b)(h2:b<224):R=zaZ 2 128 (zbW s (i+1) 1 (b-192)):=by
 subst e;rw [←h];unfold chr;rw [if_neg (by omega),if_pos ⟨h1,h2⟩]
theorem zzJ(s:ByteArray)(i:Nat)(R:Int × Int)(h:chr s i=R)(b:Int)(e:b=bt s i)(h1:224≤b)(h2:b<240):R=zaZ 3 2048 (zbW s (i+1) 2 (b-224)):=by
 subst e;rw [←h];unfold chr;rw [if_neg (by omega),if_neg (by omega),if_pos ⟨h1,h2⟩]
theorem zzK(s:ByteArray)(i:Nat)(R:Int × Int)(h:chr s i=R)(b:Int)(e:b=bt s i)(h1:240≤b)(h2:b<245):R=zaZ 4 65536 (zbW s (i+1) 3 (b-240)):=by
 subst e;rw [←h];unfold chr;rw [if_neg (by omega),if_neg (by omega),if_neg (by omega),if_pos ⟨h1,h2⟩]
theorem zyX(s:ByteArray)(i:Nat)(R:Int × Int)(h:chr s i=R)(b:Int)(e:b=bt s i)(h1:128≤b)(h2:b<194∨245≤b):(0:Int)=R.1∧(0:Int)=R.2:=by
 subst e;rw [←h];unfold chr;rw [if_neg (by omega),if_neg (by omega),if_neg (by omega),if_neg (by omega)];exact⟨rfl,rfl⟩
theorem zvd(s:ByteArray)(i:Nat)(w:World)(_hs:s.size≤140737488355328)(hi:i<s.size)(R:Int × Int)(HR:Hid (chr s i=R))(h1:(s[i].toNat:Int)<128):
  qC 106 #[.string s,.int .i64 (i:Int)] w fun e w'=>e=.returned (.tuple #[.int .i64 R.1,.int .i64 R.2])∧w'=w:=by
 have hb0:0≤(s[i].toNat:Int):=by omega
 have hb1:(s[i].toNat:Int)≤255:=by have:=s[i].toNat_lt;omega
 have a:Hid ((s[i].toNat:Int)=bt s i):=zdU s i hi;go_enter Tryz.func106,Tryz.ntmps106;go_wp2;go_ret2;exact⟨zcC (zzH s i R HR.out _ a.out (by omega)),rfl⟩
theorem zve(s:ByteArray)(i:Nat)(w:World)(_hs:s.size≤140737488355328)(hi:i<s.size)(R:Int × Int)(HR:Hid (chr s i=R))(h1:128≤(s[i].toNat:Int))(h2:(s[i].toNat:Int)<194):
  qC 106 #[.string s,.int .i64 (i:Int)] w fun e w'=>e=.returned (.tuple #[.int .i64 R.1,.int .i64 R.2])∧w'=w:=by
 have hb0:0≤(s[i].toNat:Int):=by omega
 have hb1:(s[i].toNat:Int)≤255:=by have:=s[i].toNat_lt;omega
 have a:Hid ((s[i].toNat:Int)=bt s i):=zdU s i hi;go_enter Tryz.func106,Tryz.ntmps106;go_wp2;go_ret2;exact⟨zcC (zyX s i R HR.out _ a.out (by omega) (by omega)),rfl⟩
theorem zvf(s:ByteArray)(i:Nat)(w:World)(_hs:s.size≤140737488355328)(hi:i<s.size)(R:Int × Int)(HR:Hid (chr s i=R))(h1:245≤(s[i].toNat:Int)):
  qC 106 #[.string s,.int .i64 (i:Int)] w fun e w'=>e=.returned (.tuple #[.int .i64 R.1,.int .i64 R.2])∧w'=w:=by
 have hb0:0≤(s[i].toNat:Int):=by omega
 have hb1:(s[i].toNat:Int)≤255:=by have:=s[i].toNat_lt;omega
 have a:Hid ((s[i].toNat:Int)=bt s i):=zdU s i hi;go_enter Tryz.func106,Tryz.ntmps106;go_wp2;go_ret2;exact⟨zcC (zyX s i R HR.out _ a.out (by omega) (by omega)),rfl⟩
theorem zvg(s:ByteArray)(i:Nat)(w:World)(hs:s.size≤140737488355328)(hi:i<s.size)(R:Int × Int)(HR:Hid (chr s i=R))(h1:194≤(s[i].toNat:Int))(h2:(s[i].toNat:Int)<224):
  qC 106 #[.string s,.int .i64 (i:Int)] w fun e w'=>e=.returned (.tuple #[.int .i64 R.1,.int .i64 R.2])∧w'=w:=by
 have hb0:0≤(s[i].toNat:Int):=by omega
 have hb1:(s[i].toNat:Int)≤255:=by have:=s[i].toNat_lt;omega
 have c:Hid ((s[i].toNat:Int)=bt s i):=zdU s i hi;go_enter Tryz.func106,Tryz.ntmps106;go_wp2
 go_loop [9,10] (fun tv ti=>∃(j:Nat) (v:Int),j≤i+2∧ti=.int .i64 (j:Int)∧tv=.int .i64 v∧0≤v∧(j=i+1∧v≤31∨j=i+2∧v≤2047∨j=i+3∧v≤131071∨j=i+4∧v≤8388607)∧R=zaZ ((2:Nat):Int) 128 (zbW s j (i+2-j) v)) (fun _ ti=>i+2-(intOf ti).toNat)
 case atStart=>exact⟨i+1,(s[i].toNat:Int)-192,by omega,by go_num,rfl,by omega,by omega,(zzI s i R HR.out _ c.out (by omega) (by omega)).trans (by rw [show i+2-(i+1)=2-1 from by omega];rfl)⟩
 case round =>
  obtain⟨j,v,hj,rfl,rfl,hv,hd,g⟩:=hrel;have a:Hid (R=zaZ ((2:Nat):Int) 128 (zbW s j (i+2-j) v)):=g;clear g;by_cases hlt:j<i+2
  ·by_cases b:j<s.size
   ·have hc0:0≤(s[j].toNat:Int):=by omega
    have hc1:(s[j].toNat:Int)≤255:=by have:=s[j].toNat_lt;omega
    have d:Hid ((s[j].toNat:Int)=bt s j):=zdU s j b;go_wp2;all_goals first
     | (go_ret2;have e:=d.out;exact⟨zcC (zeX s R _ _ v j _ a.out (by omega) (by omega)),rfl⟩)
     | (go_round
        case rel=>have e:=d.out;exact⟨j+1,64*v+bt s j-128,by omega,by go_num,by rw [←e],by omega,by omega,(zkn s R _ _ v j _ a.out (by omega) b (by omega) (by omega)).trans (by rw [show i+2-j-1=i+2-(j+1) from by omega])⟩
        case measure=>simp [intOf];omega)
   ·go_wp2;go_ret2;exact⟨zcC (zeX s R _ _ v j _ a.out (by omega) (by omega)),rfl⟩
  ·have f:Hid (R=zaZ ((2:Nat):Int) 128 (some v)):=zmZ s R _ _ v j _ a.out (by omega);go_wp2;all_goals
    go_ret2;first
     | exact⟨zcC (zfx R _ _ v f.out (by omega)),rfl⟩
     | exact⟨zcC (zeA R _ _ v f.out (by omega)),rfl⟩
theorem zvh(s:ByteArray)(i:Nat)(w:World)(hs:s.size≤140737488355328)(hi:i<s.size)(R:Int × Int)(HR:Hid (chr s i=R))(h1:224≤(s[i].toNat:Int))(h2:(s[i].toNat:Int)<240):
  qC 106 #[.string s,.int .i64 (i:Int)] w fun e w'=>e=.returned (.tuple #[.int .i64 R.1,.int .i64 R.2])∧w'=w:=by
 have hb0:0≤(s[i].toNat:Int):=by omega
 have hb1:(s[i].toNat:Int)≤255:=by have:=s[i].toNat_lt;omega
 have c:Hid ((s[i].toNat:Int)=bt s i):=zdU s i hi;go_enter Tryz.func106,Tryz.ntmps106;go_wp2
 go_loop [9,10] (fun tv ti=>∃(j:Nat) (v:Int),j≤i+3∧ti=.int .i64 (j:Int)∧tv=.int .i64 v∧0≤v∧(j=i+1∧v≤31∨j=i+2∧v≤2047∨j=i+3∧v≤131071∨j=i+4∧v≤8388607)∧R=zaZ ((3:Nat):Int) 2048 (zbW s j (i+3-j) v)) (fun _ ti=>i+3-(intOf ti).toNat)
 case atStart=>exact⟨i+1,(s[i].toNat:Int)-224,by omega,by go_num,rfl,by omega,by omega,(zzJ s i R HR.out _ c.out (by omega) (by omega)).trans (by rw [show i+3-(i+1)=3-1 from by omega];rfl)⟩
 case round =>
  obtain⟨j,v,hj,rfl,rfl,hv,hd,g⟩:=hrel;have a:Hid (R=zaZ ((3:Nat):Int) 2048 (zbW s j (i+3-j) v)):=g;clear g;by_cases hlt:j<i+3
  ·by_cases b:j<s.size
   ·have hc0:0≤(s[j].toNat:Int):=by omega
    have hc1:(s[j].toNat:Int)≤255:=by have:=s[j].toNat_lt;omega
    have d:Hid ((s[j].toNat:Int)=bt s j):=zdU s j b;go_wp2;all_goals first
     | (go_ret2;have e:=d.out;exact⟨zcC (zeX s R _ _ v j _ a.out (by omega) (by omega)),rfl⟩)
     | (go_round
        case rel=>have e:=d.out;exact⟨j+1,64*v+bt s j-128,by omega,by go_num,by rw [←e],by omega,by omega,(zkn s R _ _ v j _ a.out (by omega) b (by omega) (by omega)).trans (by rw [show i+3-j-1=i+3-(j+1) from by omega])⟩
        case measure=>simp [intOf];omega)
   ·go_wp2;go_ret2;exact⟨zcC (zeX s R _ _ v j _ a.out (by omega) (by omega)),rfl⟩
  ·have f:Hid (R=zaZ ((3:Nat):Int) 2048 (some v)):=zmZ s R _ _ v j _ a.out (by omega);go_wp2;all_goals
    go_ret2;first
     | exact⟨zcC (zfx R _ _ v f.out (by omega)),rfl⟩
     | exact⟨zcC (zeA R _ _ v f.out (by omega)),rfl⟩
theorem zvi(s:ByteArray)(i:Nat)(w:World)(hs:s.size≤140737488355328)(hi:i<s.size)(R:Int × Int)(HR:Hid (chr s i=R))(h1:240≤(s[i].toNat:Int))(h2:(s[i].toNat:Int)<245):
  qC 106 #[.string s,.int .i64 (i:Int)] w fun e w'=>e=.returned (.tuple #[.int .i64 R.1,.int .i64 R.2])∧w'=w:=by
 have hb0:0≤(s[i].toNat:Int):=by omega
 have hb1:(s[i].toNat:Int)≤255:=by have:=s[i].toNat_lt;omega
 have c:Hid ((s[i].toNat:Int)=bt s i):=zdU s i hi;go_enter Tryz.func106,Tryz.ntmps106;go_wp2
 go_loop [9,10] (fun tv ti=>∃(j:Nat) (v:Int),j≤i+4∧ti=.int .i64 (j:Int)∧tv=.int .i64 v∧0≤v∧(j=i+1∧v≤31∨j=i+2∧v≤2047∨j=i+3∧v≤131071∨j=i+4∧v≤8388607)∧R=zaZ ((4:Nat):Int) 65536 (zbW s j (i+4-j) v)) (fun _ ti=>i+4-(intOf ti).toNat)
 case atStart=>exact⟨i+1,(s[i].toNat:Int)-240,by omega,by go_num,rfl,by omega,by omega,(zzK s i R HR.out _ c.out (by omega) (by omega)).trans (by rw [show i+4-(i+1)=4-1 from by omega];rfl)⟩
 case round =>
  obtain⟨j,v,hj,rfl,rfl,hv,hd,g⟩:=hrel;have a:Hid (R=zaZ ((4:Nat):Int) 65536 (zbW s j (i+4-j) v)):=g;clear g;by_cases hlt:j<i+4
  ·by_cases b:j<s.size
   ·have hc0:0≤(s[j].toNat:Int):=by omega
    have hc1:(s[j].toNat:Int)≤255:=by have:=s[j].toNat_lt;omega
    have d:Hid ((s[j].toNat:Int)=bt s j):=zdU s j b;go_wp2;all_goals first
     | (go_ret2;have e:=d.out;exact⟨zcC (zeX s R _ _ v j _ a.out (by omega) (by omega)),rfl⟩)
     | (go_round
        case rel=>have e:=d.out;exact⟨j+1,64*v+bt s j-128,by omega,by go_num,by rw [←e],by omega,by omega,(zkn s R _ _ v j _ a.out (by omega) b (by omega) (by omega)).trans (by rw [show i+4-j-1=i+4-(j+1) from by omega])⟩
        case measure=>simp [intOf];omega)
   ·go_wp2;go_ret2;exact⟨zcC (zeX s R _ _ v j _ a.out (by omega) (by omega)),rfl⟩
  ·have f:Hid (R=zaZ ((4:Nat):Int) 65536 (some v)):=zmZ s R _ _ v j _ a.out (by omega);go_wp2;all_goals
    go_ret2;first
     | exact⟨zcC (zfx R _ _ v f.out (by omega)),rfl⟩
     | exact⟨zcC (zeA R _ _ v f.out (by omega)),rfl⟩
theorem zhH(s:ByteArray)(i:Nat)(w:World)(hs:s.size≤140737488355328)(hi:i<s.size):
  qC 106 #[.string s,.int .i64 (i:Int)] w fun e w'=>e=.returned (.tuple #[.int .i64 (chr s i).1,.int .i64 (chr s i).2])∧w'=w:=by
 by_cases b:(s[i].toNat:Int)<128
 ·exact zvd s i w hs hi _ rfl b
 by_cases c:(s[i].toNat:Int)<194
 ·exact zve s i w hs hi _ rfl (by omega) c
 by_cases f:(s[i].toNat:Int)<224
 ·exact zvg s i w hs hi _ rfl (by omega) f
 by_cases a:(s[i].toNat:Int)<240
 ·exact zvh s i w hs hi _ rfl (by omega) a
 by_cases d:(s[i].toNat:Int)<245
 ·exact zvi s i w hs hi _ rfl (by omega) d
 ·exact zvf s i w hs hi _ rfl (by omega)
theorem zda(s:ByteArray)(h:s.size=0):s.toList.isEmpty=true:=by
 have a:s.data.size=0:=h;rw [ByteArray.toList_eq,List.isEmpty_iff];exact List.eq_nil_of_length_eq_zero (by simpa using a)
theorem zd3(s:ByteArray)(h:¬s.size=0):s.toList.isEmpty=false:=by
 have b:¬s.data.size=0:=h;rw [ByteArray.toList_eq];cases e:s.data.toList with
 | nil=>exact absurd (by rw [←Array.length_toList,e];rfl) b
 | cons a l=>rfl
theorem zjv{k:IntKind}{a:Int}{b:Bool}{R:Int × Bool}(h:(a,b)=R):Ending.returned (.tuple #[.int k a,.bool b])=.returned (.tuple #[.int k R.1,.bool R.2]):=by rw [←h]
theorem zo0(n d:Int)(h1:0≤d)(h2:d≤9)(h3:n≤0)(h4:(-9223372036854775808+d).tdiv 10≤n):wrap64 (wrap64 (10*n)-d)=10*n-d:=by
 have e:=zh0 d h2;unfold least at e;rw [e] at h4;have e1:wrap64 (10*n)=10*n:=IntWalk.wrap64_in _ (by omega);rw [e1];exact IntWalk.wrap64_in _ (by omega)
theorem zsa(n d:Int)(h1:0≤d)(h2:d≤9)(h4:(-9223372036854775808+d).tdiv 10≤n):¬zdo n d=true:=by
 unfold zdo least;simp;omega
theorem zpH(n d:Int)(h:d<0∨9<d∨n<(-9223372036854775808+d).tdiv 10):zdo n d=true:=by
 unfold zdo least;simp;omega
theorem zo1(s:ByteArray)(R:Int × Bool)(m:Bool)(j:Nat)(n d:Int)(hR:R=zb5 m (zcQ s j n))(hj:j<s.size)(e:d=bt s j-48)(h:d<0∨9<d∨n<(-9223372036854775808+d).tdiv 10):(0,false)=R:=by
 subst e;rw [hR,zeC s j n hj (zpH _ _ h)];rfl
theorem zo2(s:ByteArray)(R:Int × Bool)(m:Bool)(j:Nat)(n d:Int)(hR:R=zb5 m (zcQ s j n))(hj:j<s.size)(e:d=bt s j-48)(h1:0≤d)(h2:d≤9)(h4:(-9223372036854775808+d).tdiv 10≤n):R=zb5 m (zcQ s (j+1) (10*n-d)):=by
 subst e;rw [hR,zdX s j n hj (zsa _ _ h1 h2 h4)]
theorem zsb(n d:Int)(h1:0≤d)(h2:d≤9)(h3:n≤0)(h4:(-9223372036854775808+d).tdiv 10≤n):least≤10*n-d∧10*n-d≤0:=by
 have e:=zh0 d h2;unfold least at e;rw [e] at h4;unfold least;omega
theorem zpI(s:ByteArray)(j:Nat)(h:j+1<s.size):bt (s.extract 1 s.size) j=bt s (j+1):=by
 have h':j+1<s.data.size:=h;unfold bt;congr 2;rw [ByteArray.data_extract,Array.getElem?_extract];rw [if_pos (by omega)];congr 2;omega
theorem size_extract(s:ByteArray):(s.extract 1 s.size).size=s.size-1:=by
 rw [ByteArray.size_extract];omega
theorem zfR(s:ByteArray)(j:Nat)(n:Int)(h:1≤s.size):zcQ (s.extract 1 s.size) j n=zcQ s (j+1) n:=by
 by_cases b:j<(s.extract 1 s.size).size
 ·have c:=size_extract s;have e:=zpI s j (by omega);by_cases a:zdo n (bt (s.extract 1 s.size) j-48)=true
  ·rw [zeC _ _ _ b a];rw [e] at a;rw [zeC _ _ _ (by omega) a]
  ·rw [zdX _ _ _ b a];rw [e] at a;rw [zdX _ _ _ (by omega) a,e];exact zfR s (j+1) _ h
 ·have c:=size_extract s;rw [zdW _ _ _ b,zdW _ _ _ (by omega)]
termination_by (s.extract 1 s.size).size-j
theorem zpJ(s:ByteArray)(h:zd7 s=false)(hz:s.size=0):(0,false)=zaI s:=by
 unfold zaI;rw [if_neg (by simp [h]),if_pos hz]
theorem zpK(s:ByteArray)(h:zd7 s=false)(hz:¬s.size=0):zaI s=zb5 false (zcQ s 0 0):=by
 unfold zaI;rw [if_neg (by simp [h]),if_neg hz]
theorem zpL(s:ByteArray)(h:zd7 s=true)(hz:s.size=1):(0,false)=zaI s:=by
 unfold zaI;rw [if_pos h,if_pos hz]
theorem znb(s:ByteArray)(h:zd7 s=true)(hz:¬s.size=1):zaI s=zb5 true (zcQ s 1 0):=by
 unfold zaI;rw [if_pos h,if_neg hz]
theorem zsc(s:ByteArray)(h:zd7 s=false)(hp:0<s.size):((s[0].toNat:Int) == 45)=false:=by
 have e:=zdU s 0 hp;simp [zd7,hp] at h;simp [e,h]
theorem zvn(s:ByteArray)(h:zd7 s=true):∃ hp:0<s.size,((s[0].toNat:Int) == 45)=true:=by
 simp [zd7] at h;refine⟨h.1,?_⟩;have e:=zdU s 0 h.1;simp [e,h.2]
theorem zla(n:Int):(n,true)=zb5 true (some n):=rfl
theorem znc(n:Int)(h0:-9223372036854775808≤n)(h1:n≤0):(wrap64 (-n),decide (-9223372036854775808<n))=zb5 false (some n):=by
 have e:zb5 false (some n)=(if n=least then least else -n,decide (least<n)):=rfl;rw [e];unfold least;by_cases h:n=-9223372036854775808
 ·rw [if_pos h];subst h;unfold wrap64;simp
 ·rw [if_neg h,IntWalk.wrap64_in _ (by omega)]
theorem zvo(s:ByteArray)(w:World)(hs:s.size≤140737488355328)(h:zd7 s=false):
  qC 76 #[.string s] w fun e w'=>e=.returned (.tuple #[.int .i64 (zaI s).1,.bool (zaI s).2])∧w'=w:=by
 by_cases g:s.size=0
 ·have m:=zda s g;have q:Hid ((0,false)=zaI s):=zpJ s h g;go_enter Tryz.func76,Tryz.ntmps76;go_wp2;go_ret2;exact⟨zjv q.out,rfl⟩
 ·have m:=zd3 s g;have o:0<s.size:=by omega
  have hb:=zsc s h o;have c:=zpK s h g;generalize zaI s=R at c;have f:Hid (R=zb5 false (zcQ s 0 0)):=c;clear c h;go_enter Tryz.func76,Tryz.ntmps76;go_wp2
  go_loop [5,6] (fun tn ti=>∃(j:Nat) (n:Int),j≤s.size∧least≤n∧n≤0∧ti=.int .i64 (j:Int)∧tn=.int .i64 n∧R=zb5 false (zcQ s j n)) (fun _ ti=>s.size-(intOf ti).toNat)
  case atStart=>exact⟨0,0,by omega,by unfold least;omega,by omega,rfl,rfl,f.out⟩
  case round =>
   obtain⟨j,n,hj,d,b,rfl,rfl,c⟩:=hrel;clear f;have f:Hid (R=zb5 false (zcQ s j n)):=c;clear c;unfold least at d;by_cases a:j<s.size
   ·have hc0:0≤(s[j].toNat:Int):=by omega
    have hc1:(s[j].toNat:Int)≤255:=by have:=s[j].toNat_lt;omega
    have k:Hid ((s[j].toNat:Int)=bt s j):=zdU s j a;go_wp2;all_goals first
     | (go_ret2;have e:=k.out;exact⟨zjv (zo1 s R false j n ((s[j].toNat:Int)-48) f.out a (by rw [e]) (by omega)),rfl⟩)
     | (go_round
        case rel =>
         have e:=k.out;have i:(-9223372036854775808+((s[j].toNat:Int)-48)).tdiv 10≤n:=by omega
         have l:=zsb n ((s[j].toNat:Int)-48) (by omega) (by omega) b i;exact⟨j+1,10*n-((s[j].toNat:Int)-48),by omega,l.1,l.2,by go_num,by rw [zo0 n _ (by omega) (by omega) b i],zo2 s R false j n ((s[j].toNat:Int)-48) f.out a (by rw [e]) (by omega) (by omega) i⟩
        case measure=>simp [intOf];omega)
   ·have p:Hid (R=zb5 false (some n)):=by rw [f.out,zdW s j n a];rfl
    go_wp2;go_ret2;exact⟨zjv ((znc n d b).trans p.out.symm),rfl⟩
theorem zsd(s:ByteArray)(w:World)(hs:s.size≤140737488355328)(h:zd7 s=true):
  qC 76 #[.string s] w fun e w'=>e=.returned (.tuple #[.int .i64 (zaI s).1,.bool (zaI s).2])∧w'=w:=by
 obtain⟨hp,hb⟩:=zvn s h;have b:=size_extract s;by_cases l:s.size=1
 ·have o:=zda (s.extract 1 s.size) (by omega);have q:Hid ((0,false)=zaI s):=zpL s h l;clear b h;go_enter Tryz.func76,Tryz.ntmps76;go_wp2;go_ret2;exact⟨zjv q.out,rfl⟩
 ·have o:=zd3 (s.extract 1 s.size) (by omega);have c:=znb s h l;rw [←zfR s 0 0 (by omega)] at c;generalize zaI s=R at c;have d:Hid (R=zb5 true (zcQ (s.extract 1 s.size) 0 0)):=c;have HZ:Hid ((s.extract 1 s.size).size=s.size-1):=b;have hts:(s.extract 1 s.size).size≤140737488355328:=by omega
  clear c h b;go_enter Tryz.func76,Tryz.ntmps76;go_wp2;generalize s.extract 1 s.size=t at *
  go_loop [5,6] (fun tn ti=>∃(j:Nat) (n:Int),j≤t.size∧least≤n∧n≤0∧ti=.int .i64 (j:Int)∧tn=.int .i64 n∧R=zb5 true (zcQ t j n)) (fun _ ti=>t.size-(intOf ti).toNat)
  case atStart=>exact⟨0,0,by omega,by unfold least;omega,by omega,rfl,rfl,d.out⟩
  case round =>
   obtain⟨j,n,hj,g,f,rfl,rfl,c⟩:=hrel;clear d;have d:Hid (R=zb5 true (zcQ t j n)):=c;clear c;unfold least at g;by_cases a:j<t.size
   ·have hc0:0≤(t[j].toNat:Int):=by omega
    have hc1:(t[j].toNat:Int)≤255:=by have:=t[j].toNat_lt;omega
    have k:Hid ((t[j].toNat:Int)=bt t j):=zdU t j a;go_wp2;all_goals first
     | (go_ret2;have e:=k.out;exact⟨zjv (zo1 t R true j n ((t[j].toNat:Int)-48) d.out a (by rw [e]) (by omega)),rfl⟩)
     | (go_round
        case rel =>
         have e:=k.out;have i:(-9223372036854775808+((t[j].toNat:Int)-48)).tdiv 10≤n:=by omega
         have m:=zsb n ((t[j].toNat:Int)-48) (by omega) (by omega) f i;exact⟨j+1,10*n-((t[j].toNat:Int)-48),by omega,m.1,m.2,by go_num,by rw [zo0 n _ (by omega) (by omega) f i],zo2 t R true j n ((t[j].toNat:Int)-48) d.out a (by rw [e]) (by omega) (by omega) i⟩
        case measure=>simp [intOf];omega)
   ·have p:Hid (R=zb5 true (some n)):=by rw [d.out,zdW t j n a];rfl
    go_wp2;go_ret2;exact⟨zjv ((zla n).trans p.out.symm),rfl⟩
theorem znd(s:ByteArray)(w:World)(hs:s.size≤140737488355328):
  qC 76 #[.string s] w fun e w'=>e=.returned (.tuple #[.int .i64 (zaI s).1,.bool (zaI s).2])∧w'=w:=by
 cases h:zd7 s with
 | true=>exact zsd s w hs h
 | false=>exact zvo s w hs h
end Go.Proofs.YtfpgjkbjbbgciaaGreatDoor
