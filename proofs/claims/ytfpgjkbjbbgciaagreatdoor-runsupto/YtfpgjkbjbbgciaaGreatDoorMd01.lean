import Derived.Test.YtfpgjkbjbbgciaaGreatDoorMd00
import Derived.Test.YtfpgjkbjbbgciaaGreatDoorProg
import Derived.WalkKit
import Derived.WalkSpells
import Derived.WalkLawsBesides
import Derived.Lib.Strings
set_option maxRecDepth 100000
set_option maxHeartbeats 8000000
namespace Go.Proofs.YtfpgjkbjbbgciaaGreatDoor
open Go.RowKit Sp
theorem zbX{k:IntKind}{a b:Int}(h:a=b):Ending.returned (.int k a)=.returned (.int k b):=by rw [h]
theorem zky(s:ByteArray)(h:¬(s.size=2∧bt s 0=114∧48≤bt s 1∧bt s 1≤55)):(-1:Int)=reg s:=by
 unfold reg regB;simp;omega
theorem zrg(s:ByteArray)(h:s.size=2)(h0:bt s 0=114)(h1:48≤bt s 1)(h2:bt s 1≤55):bt s 1-48=reg s:=by
 unfold reg regB;simp [h,h0,h1,h2]
theorem zms(s:ByteArray)(w:World)(_hs:s.size≤maxLen):
  Calls Tryz.prog 75 #[.string s] w fun e w'=>e=.returned (.int .i64 (reg s))∧w'=w:=by
 unfold maxLen at _hs
 by_cases h:s.size=2
 ·have e0:=zdE s 0 (by omega)
  have e1:=zdE s 1 (by omega)
  have H0:Hid (((s[0]'(by omega)).toNat:Int)=bt s 0):=e0
  have H1:Hid (((s[1]'(by omega)).toNat:Int)=bt s 1):=e1
  clear e0 e1
  go_enter Tryz.func75,Tryz.ntmps75
  go_wp2
  all_goals go_ret
  all_goals have e0:=H0.out
  all_goals have e1:=H1.out
  ·exact⟨zbX (zky s (by omega)),rfl⟩
  ·exact⟨zbX (by rw [e1];exact zrg s h (by omega) (by omega) (by omega)),rfl⟩
  ·exact⟨zbX (zky s (by omega)),rfl⟩
  ·exact⟨zbX (zky s (by omega)),rfl⟩
 ·go_enter Tryz.func75,Tryz.ntmps75
  go_wp2
  go_ret
  exact⟨zbX (zky s (by omega)),rfl⟩
theorem zoV(s:ByteArray)(i k:Nat)(v:Int)(h:i<s.size)(h1:128≤bt s i)(h2:bt s i≤191):zbM s i (k+1) v=zbM s (i+1) k (64*v+bt s i-128):=by
 simp [zbM,h,h1,h2]
theorem zua(s:ByteArray)(i k:Nat)(v:Int)(h:¬(i<s.size∧128≤bt s i∧bt s i≤191)):zbM s i (k+1) v=none:=by
 unfold zbM;rw [if_neg h]
theorem zoW(n least v:Int)(h:v<least∨1114111<v∨(55296≤v∧v≤57343)):zaV n least (some v)=(0,0):=by
 unfold zaV;exact if_pos h
theorem zmt(n least v:Int)(h:¬(v<least∨1114111<v∨(55296≤v∧v≤57343))):zaV n least (some v)=(n,v):=by
 unfold zaV;exact if_neg h
theorem zeH(s:ByteArray)(R:Int × Int)(n least v:Int)(j m:Nat)(hR:R=zaV n least (zbM s j m v))(hm:0<m)(h:¬(j<s.size∧128≤bt s j∧bt s j≤191)):0=R.1∧0=R.2:=by
 obtain⟨k,rfl⟩:∃ k,m=k+1:=⟨m-1,by omega⟩
 rw [hR,zua s j k v h];exact⟨rfl,rfl⟩
theorem zjB(s:ByteArray)(R:Int × Int)(n least v:Int)(j m:Nat)(hR:R=zaV n least (zbM s j m v))(hm:0<m)(h0:j<s.size)(h1:128≤bt s j)(h2:bt s j≤191):R=zaV n least (zbM s (j+1) (m-1) (64*v+bt s j-128)):=by
 obtain⟨k,rfl⟩:∃ k,m=k+1:=⟨m-1,by omega⟩
 rw [hR,zoV s j k v h0 h1 h2];rfl
theorem zmu(s:ByteArray)(R:Int × Int)(n least v:Int)(j m:Nat)(hR:R=zaV n least (zbM s j m v))(hm:m=0):R=zaV n least (some v):=by
 subst hm;rw [hR];rfl
theorem zfh(R:Int × Int)(n least v:Int)(hR:R=zaV n least (some v))(h:v<least∨1114111<v∨(55296≤v∧v≤57343)):0=R.1∧0=R.2:=by
 rw [hR,zoW _ _ _ h];exact⟨rfl,rfl⟩
theorem zer(R:Int × Int)(n least v:Int)(hR:R=zaV n least (some v))(h:¬(v<least∨1114111<v∨(55296≤v∧v≤57343))):n=R.1∧v=R.2:=by
 rw [hR,zmt _ _ _ h];exact⟨rfl,rfl⟩
theorem zc1{k l:IntKind}{a b:Int}{R:Int × Int}(h:a=R.1∧b=R.2):Ending.returned (.tuple #[.int k a,.int l b])=.returned (.tuple #[.int k R.1,.int l R.2]):=by rw [h.1,h.2]
theorem zy6(s:ByteArray)(i:Nat)(R:Int × Int)(h:chr s i=R)(b:Int)(e:b=bt s i)(h1:b<128):(1:Int)=R.1∧b=R.2:=by
 subst e;rw [←h];unfold chr;rw [if_pos h1];exact⟨rfl,rfl⟩
theorem zy7(s:ByteArray)(i:Nat)(R:Int × Int)(h:chr s i=R)(b:Int)(e:b=bt s i)(h1:194≤b)(h2:b<224):R=zaV 2 128 (zbM s (i+1) 1 (b-192)):=by
 subst e;rw [←h];unfold chr;rw [if_neg (by omega),if_pos ⟨h1,h2⟩]
theorem zy8(s:ByteArray)(i:Nat)(R:Int × Int)(h:chr s i=R)(b:Int)(e:b=bt s i)(h1:224≤b)(h2:b<240):R=zaV 3 2048 (zbM s (i+1) 2 (b-224)):=by
 subst e;rw [←h];unfold chr;rw [if_neg (by omega),if_neg (by omega),if_pos ⟨h1,h2⟩]
theorem zy9(s:ByteArray)(i:Nat)(R:Int × Int)(h:chr s i=R)(b:Int)(e:b=bt s i)(h1:240≤b)(h2:b<245):R=zaV 4 65536 (zbM s (i+1) 3 (b-240)):=by
 subst e;rw [←h];unfold chr;rw [if_neg (by omega),if_neg (by omega),if_neg (by omega),if_pos ⟨h1,h2⟩]
theorem zxL(s:ByteArray)(i:Nat)(R:Int × Int)(h:chr s i=R)(b:Int)(e:b=bt s i)(h1:128≤b)(h2:b<194∨245≤b):(0:Int)=R.1∧(0:Int)=R.2:=by
 subst e;rw [←h];unfold chr;rw [if_neg (by omega),if_neg (by omega),if_neg (by omega),if_neg (by omega)];exact⟨rfl,rfl⟩
theorem zub(s:ByteArray)(i:Nat)(w:World)(_hs:s.size≤140737488355328)(hi:i<s.size)(R:Int × Int)(HR:Hid (chr s i=R))(h1:(s[i].toNat:Int)<128):
  Calls Tryz.prog 106 #[.string s,.int .i64 (i:Int)] w fun e w'=>e=.returned (.tuple #[.int .i64 R.1,.int .i64 R.2])∧w'=w:=by
 have hb0:0≤(s[i].toNat:Int):=by omega
 have hb1:(s[i].toNat:Int)≤255:=by have:=s[i].toNat_lt;omega
 have HE0:Hid ((s[i].toNat:Int)=bt s i):=zdE s i hi
 go_enter Tryz.func106,Tryz.ntmps106
 go_wp2
 go_ret2
 exact⟨zc1 (zy6 s i R HR.out _ HE0.out (by omega)),rfl⟩
theorem zuc(s:ByteArray)(i:Nat)(w:World)(_hs:s.size≤140737488355328)(hi:i<s.size)(R:Int × Int)(HR:Hid (chr s i=R))(h1:128≤(s[i].toNat:Int))(h2:(s[i].toNat:Int)<194):
  Calls Tryz.prog 106 #[.string s,.int .i64 (i:Int)] w fun e w'=>e=.returned (.tuple #[.int .i64 R.1,.int .i64 R.2])∧w'=w:=by
 have hb0:0≤(s[i].toNat:Int):=by omega
 have hb1:(s[i].toNat:Int)≤255:=by have:=s[i].toNat_lt;omega
 have HE0:Hid ((s[i].toNat:Int)=bt s i):=zdE s i hi
 go_enter Tryz.func106,Tryz.ntmps106
 go_wp2
 go_ret2
 exact⟨zc1 (zxL s i R HR.out _ HE0.out (by omega) (by omega)),rfl⟩
theorem zud(s:ByteArray)(i:Nat)(w:World)(_hs:s.size≤140737488355328)(hi:i<s.size)(R:Int × Int)(HR:Hid (chr s i=R))(h1:245≤(s[i].toNat:Int)):
  Calls Tryz.prog 106 #[.string s,.int .i64 (i:Int)] w fun e w'=>e=.returned (.tuple #[.int .i64 R.1,.int .i64 R.2])∧w'=w:=by
 have hb0:0≤(s[i].toNat:Int):=by omega
 have hb1:(s[i].toNat:Int)≤255:=by have:=s[i].toNat_lt;omega
 have HE0:Hid ((s[i].toNat:Int)=bt s i):=zdE s i hi
 go_enter Tryz.func106,Tryz.ntmps106
 go_wp2
 go_ret2
 exact⟨zc1 (zxL s i R HR.out _ HE0.out (by omega) (by omega)),rfl⟩
theorem zue(s:ByteArray)(i:Nat)(w:World)(hs:s.size≤140737488355328)(hi:i<s.size)(R:Int × Int)(HR:Hid (chr s i=R))(h1:194≤(s[i].toNat:Int))(h2:(s[i].toNat:Int)<224):
  Calls Tryz.prog 106 #[.string s,.int .i64 (i:Int)] w fun e w'=>e=.returned (.tuple #[.int .i64 R.1,.int .i64 R.2])∧w'=w:=by
 have hb0:0≤(s[i].toNat:Int):=by omega
 have hb1:(s[i].toNat:Int)≤255:=by have:=s[i].toNat_lt;omega
 have HE0:Hid ((s[i].toNat:Int)=bt s i):=zdE s i hi
 go_enter Tryz.func106,Tryz.ntmps106
 go_wp2
 go_loop [9,10] (fun tv ti=>∃(j:Nat) (v:Int),j≤i+2∧ti=.int .i64 (j:Int)∧tv=.int .i64 v∧0≤v∧(j=i+1∧v≤31∨j=i+2∧v≤2047∨j=i+3∧v≤131071∨j=i+4∧v≤8388607)∧R=zaV ((2:Nat):Int) 128 (zbM s j (i+2-j) v)) (fun _ ti=>i+2-(intOf ti).toNat)
 case atStart=>exact⟨i+1,(s[i].toNat:Int)-192,by omega,by go_num,rfl,by omega,by omega,(zy7 s i R HR.out _ HE0.out (by omega) (by omega)).trans (by rw [show i+2-(i+1)=2-1 from by omega];rfl)⟩
 case round =>
  obtain⟨j,v,hj,rfl,rfl,hv,hd,hR⟩:=hrel
  have HR2:Hid (R=zaV ((2:Nat):Int) 128 (zbM s j (i+2-j) v)):=hR
  clear hR
  by_cases hlt:j<i+2
  ·by_cases hlen:j<s.size
   ·have hc0:0≤(s[j].toNat:Int):=by omega
    have hc1:(s[j].toNat:Int)≤255:=by have:=s[j].toNat_lt;omega
    have HE:Hid ((s[j].toNat:Int)=bt s j):=zdE s j hlen
    go_wp2
    all_goals first
     | (go_ret2;have e:=HE.out;exact⟨zc1 (zeH s R _ _ v j _ HR2.out (by omega) (by omega)),rfl⟩)
     | (go_round
        case rel=>have e:=HE.out;exact⟨j+1,64*v+bt s j-128,by omega,by go_num,by rw [←e],by omega,by omega,(zjB s R _ _ v j _ HR2.out (by omega) hlen (by omega) (by omega)).trans (by rw [show i+2-j-1=i+2-(j+1) from by omega])⟩
        case measure=>simp [intOf];omega)
   ·go_wp2
    go_ret2
    exact⟨zc1 (zeH s R _ _ v j _ HR2.out (by omega) (by omega)),rfl⟩
  ·have HF:Hid (R=zaV ((2:Nat):Int) 128 (some v)):=zmu s R _ _ v j _ HR2.out (by omega)
   go_wp2
   all_goals
    go_ret2
    first
     | exact⟨zc1 (zfh R _ _ v HF.out (by omega)),rfl⟩
     | exact⟨zc1 (zer R _ _ v HF.out (by omega)),rfl⟩
theorem zuf(s:ByteArray)(i:Nat)(w:World)(hs:s.size≤140737488355328)(hi:i<s.size)(R:Int × Int)(HR:Hid (chr s i=R))(h1:224≤(s[i].toNat:Int))(h2:(s[i].toNat:Int)<240):
  Calls Tryz.prog 106 #[.string s,.int .i64 (i:Int)] w fun e w'=>e=.returned (.tuple #[.int .i64 R.1,.int .i64 R.2])∧w'=w:=by
 have hb0:0≤(s[i].toNat:Int):=by omega
 have hb1:(s[i].toNat:Int)≤255:=by have:=s[i].toNat_lt;omega
 have HE0:Hid ((s[i].toNat:Int)=bt s i):=zdE s i hi
 go_enter Tryz.func106,Tryz.ntmps106
 go_wp2
 go_loop [9,10] (fun tv ti=>∃(j:Nat) (v:Int),j≤i+3∧ti=.int .i64 (j:Int)∧tv=.int .i64 v∧0≤v∧(j=i+1∧v≤31∨j=i+2∧v≤2047∨j=i+3∧v≤131071∨j=i+4∧v≤8388607)∧R=zaV ((3:Nat):Int) 2048 (zbM s j (i+3-j) v)) (fun _ ti=>i+3-(intOf ti).toNat)
 case atStart=>exact⟨i+1,(s[i].toNat:Int)-224,by omega,by go_num,rfl,by omega,by omega,(zy8 s i R HR.out _ HE0.out (by omega) (by omega)).trans (by rw [show i+3-(i+1)=3-1 from by omega];rfl)⟩
 case round =>
  obtain⟨j,v,hj,rfl,rfl,hv,hd,hR⟩:=hrel
  have HR2:Hid (R=zaV ((3:Nat):Int) 2048 (zbM s j (i+3-j) v)):=hR
  clear hR
  by_cases hlt:j<i+3
  ·by_cases hlen:j<s.size
   ·have hc0:0≤(s[j].toNat:Int):=by omega
    have hc1:(s[j].toNat:Int)≤255:=by have:=s[j].toNat_lt;omega
    have HE:Hid ((s[j].toNat:Int)=bt s j):=zdE s j hlen
    go_wp2
    all_goals first
     | (go_ret2;have e:=HE.out;exact⟨zc1 (zeH s R _ _ v j _ HR2.out (by omega) (by omega)),rfl⟩)
     | (go_round
        case rel=>have e:=HE.out;exact⟨j+1,64*v+bt s j-128,by omega,by go_num,by rw [←e],by omega,by omega,(zjB s R _ _ v j _ HR2.out (by omega) hlen (by omega) (by omega)).trans (by rw [show i+3-j-1=i+3-(j+1) from by omega])⟩
        case measure=>simp [intOf];omega)
   ·go_wp2
    go_ret2
    exact⟨zc1 (zeH s R _ _ v j _ HR2.out (by omega) (by omega)),rfl⟩
  ·have HF:Hid (R=zaV ((3:Nat):Int) 2048 (some v)):=zmu s R _ _ v j _ HR2.out (by omega)
   go_wp2
   all_goals
    go_ret2
    first
     | exact⟨zc1 (zfh R _ _ v HF.out (by omega)),rfl⟩
     | exact⟨zc1 (zer R _ _ v HF.out (by omega)),rfl⟩
theorem zug(s:ByteArray)(i:Nat)(w:World)(hs:s.size≤140737488355328)(hi:i<s.size)(R:Int × Int)(HR:Hid (chr s i=R))(h1:240≤(s[i].toNat:Int))(h2:(s[i].toNat:Int)<245):
  Calls Tryz.prog 106 #[.string s,.int .i64 (i:Int)] w fun e w'=>e=.returned (.tuple #[.int .i64 R.1,.int .i64 R.2])∧w'=w:=by
 have hb0:0≤(s[i].toNat:Int):=by omega
 have hb1:(s[i].toNat:Int)≤255:=by have:=s[i].toNat_lt;omega
 have HE0:Hid ((s[i].toNat:Int)=bt s i):=zdE s i hi
 go_enter Tryz.func106,Tryz.ntmps106
 go_wp2
 go_loop [9,10] (fun tv ti=>∃(j:Nat) (v:Int),j≤i+4∧ti=.int .i64 (j:Int)∧tv=.int .i64 v∧0≤v∧(j=i+1∧v≤31∨j=i+2∧v≤2047∨j=i+3∧v≤131071∨j=i+4∧v≤8388607)∧R=zaV ((4:Nat):Int) 65536 (zbM s j (i+4-j) v)) (fun _ ti=>i+4-(intOf ti).toNat)
 case atStart=>exact⟨i+1,(s[i].toNat:Int)-240,by omega,by go_num,rfl,by omega,by omega,(zy9 s i R HR.out _ HE0.out (by omega) (by omega)).trans (by rw [show i+4-(i+1)=4-1 from by omega];rfl)⟩
 case round =>
  obtain⟨j,v,hj,rfl,rfl,hv,hd,hR⟩:=hrel
  have HR2:Hid (R=zaV ((4:Nat):Int) 65536 (zbM s j (i+4-j) v)):=hR
  clear hR
  by_cases hlt:j<i+4
  ·by_cases hlen:j<s.size
   ·have hc0:0≤(s[j].toNat:Int):=by omega
    have hc1:(s[j].toNat:Int)≤255:=by have:=s[j].toNat_lt;omega
    have HE:Hid ((s[j].toNat:Int)=bt s j):=zdE s j hlen
    go_wp2
    all_goals first
     | (go_ret2;have e:=HE.out;exact⟨zc1 (zeH s R _ _ v j _ HR2.out (by omega) (by omega)),rfl⟩)
     | (go_round
        case rel=>have e:=HE.out;exact⟨j+1,64*v+bt s j-128,by omega,by go_num,by rw [←e],by omega,by omega,(zjB s R _ _ v j _ HR2.out (by omega) hlen (by omega) (by omega)).trans (by rw [show i+4-j-1=i+4-(j+1) from by omega])⟩
        case measure=>simp [intOf];omega)
   ·go_wp2
    go_ret2
    exact⟨zc1 (zeH s R _ _ v j _ HR2.out (by omega) (by omega)),rfl⟩
  ·have HF:Hid (R=zaV ((4:Nat):Int) 65536 (some v)):=zmu s R _ _ v j _ HR2.out (by omega)
   go_wp2
   all_goals
    go_ret2
    first
     | exact⟨zc1 (zfh R _ _ v HF.out (by omega)),rfl⟩
     | exact⟨zc1 (zer R _ _ v HF.out (by omega)),rfl⟩
theorem zhp(s:ByteArray)(i:Nat)(w:World)(hs:s.size≤140737488355328)(hi:i<s.size):
  Calls Tryz.prog 106 #[.string s,.int .i64 (i:Int)] w fun e w'=>e=.returned (.tuple #[.int .i64 (chr s i).1,.int .i64 (chr s i).2])∧w'=w:=by
 by_cases h1:(s[i].toNat:Int)<128
 ·exact zub s i w hs hi _ rfl h1
 by_cases h2:(s[i].toNat:Int)<194
 ·exact zuc s i w hs hi _ rfl (by omega) h2
 by_cases h3:(s[i].toNat:Int)<224
 ·exact zue s i w hs hi _ rfl (by omega) h3
 by_cases h4:(s[i].toNat:Int)<240
 ·exact zuf s i w hs hi _ rfl (by omega) h4
 by_cases h5:(s[i].toNat:Int)<245
 ·exact zug s i w hs hi _ rfl (by omega) h5
 ·exact zud s i w hs hi _ rfl (by omega)
theorem zcP(s:ByteArray)(h:s.size=0):s.toList.isEmpty=true:=by
 have h':s.data.size=0:=h
 rw [ByteArray.toList_eq,List.isEmpty_iff]
 exact List.eq_nil_of_length_eq_zero (by simpa using h')
theorem zdr(s:ByteArray)(h:¬s.size=0):s.toList.isEmpty=false:=by
 have h':¬s.data.size=0:=h
 rw [ByteArray.toList_eq]
 cases e:s.data.toList with
 | nil=>exact absurd (by rw [←Array.length_toList,e];rfl) h'
 | cons a l=>rfl
theorem ziN{k:IntKind}{a:Int}{b:Bool}{R:Int × Bool}(h:(a,b)=R):Ending.returned (.tuple #[.int k a,.bool b])=.returned (.tuple #[.int k R.1,.bool R.2]):=by rw [←h]
theorem znL(n d:Int)(h1:0≤d)(h2:d≤9)(h3:n≤0)(h4:(-9223372036854775808+d).tdiv 10≤n):wrap64 (wrap64 (10*n)-d)=10*n-d:=by
 have e:=zhb d h2
 unfold least at e
 rw [e] at h4
 have e1:wrap64 (10*n)=10*n:=IntWalk.wrap64_in _ (by omega)
 rw [e1]
 exact IntWalk.wrap64_in _ (by omega)
theorem zrk(n d:Int)(h1:0≤d)(h2:d≤9)(h4:(-9223372036854775808+d).tdiv 10≤n):¬zdc n d=true:=by
 unfold zdc least
 simp
 omega
theorem zoX(n d:Int)(h:d<0∨9<d∨n<(-9223372036854775808+d).tdiv 10):zdc n d=true:=by
 unfold zdc least
 simp
 omega
theorem znM(s:ByteArray)(R:Int × Bool)(m:Bool)(j:Nat)(n d:Int)(hR:R=zbx m (zcD s j n))(hj:j<s.size)(e:d=bt s j-48)(h:d<0∨9<d∨n<(-9223372036854775808+d).tdiv 10):(0,false)=R:=by
 subst e;rw [hR,zet s j n hj (zoX _ _ h)];rfl
theorem znN(s:ByteArray)(R:Int × Bool)(m:Bool)(j:Nat)(n d:Int)(hR:R=zbx m (zcD s j n))(hj:j<s.size)(e:d=bt s j-48)(h1:0≤d)(h2:d≤9)(h4:(-9223372036854775808+d).tdiv 10≤n):R=zbx m (zcD s (j+1) (10*n-d)):=by
 subst e;rw [hR,zdG s j n hj (zrk _ _ h1 h2 h4)]
theorem zrl(n d:Int)(h1:0≤d)(h2:d≤9)(h3:n≤0)(h4:(-9223372036854775808+d).tdiv 10≤n):least≤10*n-d∧10*n-d≤0:=by
 have e:=zhb d h2
 unfold least at e
 rw [e] at h4
 unfold least
 omega
theorem zoY(s:ByteArray)(j:Nat)(h:j+1<s.size):bt (s.extract 1 s.size) j=bt s (j+1):=by
 have h':j+1<s.data.size:=h
 unfold bt
 congr 2
 rw [ByteArray.data_extract,Array.getElem?_extract]
 rw [if_pos (by omega)]
 congr 2
 omega
theorem size_extract(s:ByteArray):(s.extract 1 s.size).size=s.size-1:=by
 rw [ByteArray.size_extract];omega
theorem zf9(s:ByteArray)(j:Nat)(n:Int)(h:1≤s.size):zcD (s.extract 1 s.size) j n=zcD s (j+1) n:=by
 by_cases hj:j<(s.extract 1 s.size).size
 ·have hs:=size_extract s
  have e:=zoY s j (by omega)
  by_cases hb:zdc n (bt (s.extract 1 s.size) j-48)=true
  ·rw [zet _ _ _ hj hb]
   rw [e] at hb
   rw [zet _ _ _ (by omega) hb]
  ·rw [zdG _ _ _ hj hb]
   rw [e] at hb
   rw [zdG _ _ _ (by omega) hb,e]
   exact zf9 s (j+1) _ h
 ·have hs:=size_extract s
  rw [zdF _ _ _ hj,zdF _ _ _ (by omega)]
termination_by (s.extract 1 s.size).size-j
theorem zoZ(s:ByteArray)(h:zdu s=false)(hz:s.size=0):(0,false)=zaE s:=by
 unfold zaE;rw [if_neg (by simp [h]),if_pos hz]
theorem zpa(s:ByteArray)(h:zdu s=false)(hz:¬s.size=0):zaE s=zbx false (zcD s 0 0):=by
 unfold zaE;rw [if_neg (by simp [h]),if_neg hz]
theorem zpb(s:ByteArray)(h:zdu s=true)(hz:s.size=1):(0,false)=zaE s:=by
 unfold zaE;rw [if_pos h,if_pos hz]
theorem zmv(s:ByteArray)(h:zdu s=true)(hz:¬s.size=1):zaE s=zbx true (zcD s 1 0):=by
 unfold zaE;rw [if_pos h,if_neg hz]
theorem zrm(s:ByteArray)(h:zdu s=false)(hp:0<s.size):((s[0].toNat:Int) == 45)=false:=by
 have e:=zdE s 0 hp
 simp [zdu,hp] at h
 simp [e,h]
theorem zul(s:ByteArray)(h:zdu s=true):∃ hp:0<s.size,((s[0].toNat:Int) == 45)=true:=by
 simp [zdu] at h
 refine⟨h.1,?_⟩
 have e:=zdE s 0 h.1
 simp [e,h.2]
theorem zkz(n:Int):(n,true)=zbx true (some n):=rfl
theorem zmw(n:Int)(h0:-9223372036854775808≤n)(h1:n≤0):(wrap64 (-n),decide (-9223372036854775808<n))=zbx false (some n):=by
 have e:zbx false (some n)=(if n=least then least else -n,decide (least<n)):=rfl
 rw [e]
 unfold least
 by_cases h:n=-9223372036854775808
 ·rw [if_pos h];subst h;unfold wrap64;simp
 ·rw [if_neg h,IntWalk.wrap64_in _ (by omega)]
theorem zum(s:ByteArray)(w:World)(hs:s.size≤140737488355328)(h:zdu s=false):
  Calls Tryz.prog 76 #[.string s] w fun e w'=>e=.returned (.tuple #[.int .i64 (zaE s).1,.bool (zaE s).2])∧w'=w:=by
 by_cases hz:s.size=0
 ·have he:=zcP s hz
  have HQ:Hid ((0,false)=zaE s):=zoZ s h hz
  go_enter Tryz.func76,Tryz.ntmps76
  go_wp2
  go_ret2
  exact⟨ziN HQ.out,rfl⟩
 ·have he:=zdr s hz
  have hp:0<s.size:=by omega
  have hb:=zrm s h hp
  have hR:=zpa s h hz
  generalize zaE s=R at hR
  have HR:Hid (R=zbx false (zcD s 0 0)):=hR
  clear hR h
  go_enter Tryz.func76,Tryz.ntmps76
  go_wp2
  go_loop [5,6] (fun tn ti=>∃(j:Nat) (n:Int),j≤s.size∧least≤n∧n≤0∧ti=.int .i64 (j:Int)∧tn=.int .i64 n∧R=zbx false (zcD s j n)) (fun _ ti=>s.size-(intOf ti).toNat)
  case atStart=>exact⟨0,0,by omega,by unfold least;omega,by omega,rfl,rfl,HR.out⟩
  case round =>
   obtain⟨j,n,hj,hn0,hn1,rfl,rfl,hR⟩:=hrel
   clear HR
   have HR:Hid (R=zbx false (zcD s j n)):=hR
   clear hR
   unfold least at hn0
   by_cases hlt:j<s.size
   ·have hc0:0≤(s[j].toNat:Int):=by omega
    have hc1:(s[j].toNat:Int)≤255:=by have:=s[j].toNat_lt;omega
    have HE:Hid ((s[j].toNat:Int)=bt s j):=zdE s j hlt
    go_wp2
    all_goals first
     | (go_ret2;have e:=HE.out;exact⟨ziN (znM s R false j n ((s[j].toNat:Int)-48) HR.out hlt (by rw [e]) (by omega)),rfl⟩)
     | (go_round
        case rel =>
         have e:=HE.out
         have h4:(-9223372036854775808+((s[j].toNat:Int)-48)).tdiv 10≤n:=by omega
         have hl:=zrl n ((s[j].toNat:Int)-48) (by omega) (by omega) hn1 h4
         exact⟨j+1,10*n-((s[j].toNat:Int)-48),by omega,hl.1,hl.2,by go_num,by rw [znL n _ (by omega) (by omega) hn1 h4],znN s R false j n ((s[j].toNat:Int)-48) HR.out hlt (by rw [e]) (by omega) (by omega) h4⟩
        case measure=>simp [intOf];omega)
   ·have HF:Hid (R=zbx false (some n)):=by rw [HR.out,zdF s j n hlt];rfl
    go_wp2
    go_ret2
    exact⟨ziN ((zmw n hn0 hn1).trans HF.out.symm),rfl⟩
theorem zrn(s:ByteArray)(w:World)(hs:s.size≤140737488355328)(h:zdu s=true):
  Calls Tryz.prog 76 #[.string s] w fun e w'=>e=.returned (.tuple #[.int .i64 (zaE s).1,.bool (zaE s).2])∧w'=w:=by
 obtain⟨hp,hb⟩:=zul s h
 have hsz:=size_extract s
 by_cases hz:s.size=1
 ·have he:=zcP (s.extract 1 s.size) (by omega)
  have HQ:Hid ((0,false)=zaE s):=zpb s h hz
  clear hsz h
  go_enter Tryz.func76,Tryz.ntmps76
  go_wp2
  go_ret2
  exact⟨ziN HQ.out,rfl⟩
 ·have he:=zdr (s.extract 1 s.size) (by omega)
  have hR:=zmv s h hz
  rw [←zf9 s 0 0 (by omega)] at hR
  generalize zaE s=R at hR
  have HR:Hid (R=zbx true (zcD (s.extract 1 s.size) 0 0)):=hR
  have HZ:Hid ((s.extract 1 s.size).size=s.size-1):=hsz
  have hts:(s.extract 1 s.size).size≤140737488355328:=by omega
  clear hR h hsz
  go_enter Tryz.func76,Tryz.ntmps76
  go_wp2
  generalize s.extract 1 s.size=t at *
  go_loop [5,6] (fun tn ti=>∃(j:Nat) (n:Int),j≤t.size∧least≤n∧n≤0∧ti=.int .i64 (j:Int)∧tn=.int .i64 n∧R=zbx true (zcD t j n)) (fun _ ti=>t.size-(intOf ti).toNat)
  case atStart=>exact⟨0,0,by omega,by unfold least;omega,by omega,rfl,rfl,HR.out⟩
  case round =>
   obtain⟨j,n,hj,hn0,hn1,rfl,rfl,hR⟩:=hrel
   clear HR
   have HR:Hid (R=zbx true (zcD t j n)):=hR
   clear hR
   unfold least at hn0
   by_cases hlt:j<t.size
   ·have hc0:0≤(t[j].toNat:Int):=by omega
    have hc1:(t[j].toNat:Int)≤255:=by have:=t[j].toNat_lt;omega
    have HE:Hid ((t[j].toNat:Int)=bt t j):=zdE t j hlt
    go_wp2
    all_goals first
     | (go_ret2;have e:=HE.out;exact⟨ziN (znM t R true j n ((t[j].toNat:Int)-48) HR.out hlt (by rw [e]) (by omega)),rfl⟩)
     | (go_round
        case rel =>
         have e:=HE.out
         have h4:(-9223372036854775808+((t[j].toNat:Int)-48)).tdiv 10≤n:=by omega
         have hl:=zrl n ((t[j].toNat:Int)-48) (by omega) (by omega) hn1 h4
         exact⟨j+1,10*n-((t[j].toNat:Int)-48),by omega,hl.1,hl.2,by go_num,by rw [znL n _ (by omega) (by omega) hn1 h4],znN t R true j n ((t[j].toNat:Int)-48) HR.out hlt (by rw [e]) (by omega) (by omega) h4⟩
        case measure=>simp [intOf];omega)
   ·have HF:Hid (R=zbx true (some n)):=by rw [HR.out,zdF t j n hlt];rfl
    go_wp2
    go_ret2
    exact⟨ziN ((zkz n).trans HF.out.symm),rfl⟩
theorem zmx(s:ByteArray)(w:World)(hs:s.size≤140737488355328):
  Calls Tryz.prog 76 #[.string s] w fun e w'=>e=.returned (.tuple #[.int .i64 (zaE s).1,.bool (zaE s).2])∧w'=w:=by
 cases h:zdu s with
 | true=>exact zrn s w hs h
 | false=>exact zum s w hs h
end Go.Proofs.YtfpgjkbjbbgciaaGreatDoor
