import Derived.Test.YtfpgjkbjbbgciaaGreatDoorMk28
import Derived.Test.YtfpgjkbjbbgciaaGreatDoorMk33
import Derived.Test.YtfpgjkbjbbgciaaGreatDoorMk39
set_option maxRecDepth 100000
set_option maxHeartbeats 8000000
namespace Go.Proofs.YtfpgjkbjbbgciaaGreatDoor
section
open Sp
def insN(lb fb:ByteArray→Int)(q:Said):Ins:=insX (zdQ q) (opQ q).a (opQ q).b (opQ q).c (opQ q).n (lb (zcC q)) (fb (zcC q))
def Lies(C:List (Ins × Int))(lb fb:ByteArray→Int):List Ln→Nat→Nat→Prop
 | [],p,q=>p=q
 | l :: r,p,q=>if l.said.kind=105 then zcb C p (insN lb fb l.said)∧Lies C lb fb r (p+1) q else(l.said.kind=108→lb (l.said.word 0)=(p:Int))∧Lies C lb fb r p q
variable {C:List (Ins × Int)} {lb fb:ByteArray→Int} {p q nk wt wt' f f':Nat} {fs:Nat→Fw} {H Gv Gv':Nat→Bool} {Cn:List Nat} {A B:List Ln}
theorem zfc{l:Ln}(h:l.said.kind=105)(hl:Lies C lb fb (l :: A) p q):zcb C p (insN lb fb l.said)∧Lies C lb fb A (p+1) q:=by
 unfold Lies at hl;rwa [if_pos h] at hl
theorem zvg{n:Nat}(hn:n≤1000000)(hl:Lies C lb fb (labL n :: A) p q):lb (ba (labW n))=(p:Int)∧Lies C lb fb A p q:=by
 have e:=zhF n hn;unfold Lies at hl;rw [e,if_neg (by show ¬(108:Int)=105;decide)] at hl;exact⟨hl.1 rfl,hl.2⟩
theorem Lies.app(h:Lies C lb fb (A++B) p q):∃ m,Lies C lb fb A p m∧Lies C lb fb B m q:=by
 induction A generalizing p with
 | nil=>exact⟨p,rfl,h⟩
 | cons l r ih =>
  rw [List.cons_append] at h;unfold Lies at h;by_cases a:l.said.kind=105
  ·rw [if_pos a] at h;obtain⟨m,b,c⟩:=ih h.2;exact⟨m,by unfold Lies;rw [if_pos a];exact⟨h.1,b⟩,c⟩
  ·rw [if_neg a] at h;obtain⟨m,b,c⟩:=ih h.2;exact⟨m,by unfold Lies;rw [if_neg a];exact⟨h.1,b⟩,c⟩
theorem Lies.le(h:Lies C lb fb A p q):p≤q:=by
 induction A generalizing p with
 | nil=>exact Nat.le_of_eq h
 | cons l r ih =>
  unfold Lies at h;split at h
  ·have:=ih h.2;omega
  ·exact ih h.2
def zzy(C:List (Ins × Int))(fb:ByteArray→Int)(nk:Nat)(fs:Nat→Fw):Prop:=∀ j,j<nk→(fs j).wt<1073741824→∃ ent e:Nat,fb (ba (fnW j))=(ent:Int)∧FnSem C ent e (fs j).wt (fs j).gv (fs j).fr
def Sq(nk:Nat)(fs:Nat→Fw)(H:Nat→Bool)(Cn:List Nat)(A:List Ln)(wt:Nat)(Gv:Nat→Bool)(f:Nat):Prop :=
 ∀(C:List (Ins × Int)) (lb fb:ByteArray→Int) (p q:Nat),CodeSure C→zzy C fb nk fs→Lies C lb fb A p q→Sem C p q H Cn wt Gv f
theorem Sq.nil:Sq nk fs H Cn [] 0 Gv 1:=fun C lb fb p q _ _ h=>by
 have e:p=q:=h;rw [←e];exact .nil p
theorem Sq.mono(h:Sq nk fs H Cn A wt Gv f)(hw:wt≤wt')(hG:∀ r,Gv r=true→Gv' r=true)(hF:f≤f'):Sq nk fs H Cn A wt' Gv' f' :=
 fun C lb fb p q S K L=>(h C lb fb p q S K L).mono hw hG hF
theorem Sq.app{w1 w2:Nat}(h:Sq nk fs H Cn A w1 Gv f)(h2:Sq nk fs H Cn B w2 Gv f):Sq nk fs H Cn (A++B) (w1+w2) Gv f:=fun C lb fb p q S K L=>by
 obtain⟨m,L1,L2⟩:=L.app;exact(h C lb fb p m S K L1).app (h2 C lb fb m q S K L2) L1.le L2.le
theorem Sq.congr{fs':Nat→Fw}(h:Sq nk fs H Cn A wt Gv f)(e:∀ j,j<nk→fs' j=fs j):Sq nk fs' H Cn A wt Gv f:=fun C lb fb p q S K L =>
 h C lb fb p q S (fun j hj hw=>by have:=K j hj;rw [e j hj] at this;exact this hw) L
theorem Sq.one{l:Ln}(hk:l.said.kind=105)(hs:∀(C:List (Ins × Int)) (lb fb:ByteArray→Int) (p:Nat),CodeSure C→zcb C p (insN lb fb l.said)→Sem C p (p+1) H Cn 1 Gv 1):Sq nk fs H Cn [l] 1 Gv 1:=fun C lb fb p q S _ L=>by
 obtain⟨h1,h2⟩:=zfc hk L;have e:p+1=q:=h2;rw [←e];exact hs C lb fb p S h1
theorem Sq.both{l1 l2:Ln}(hk:l1.said.kind=105)(hk2:l2.said.kind=105)(hs:∀(C:List (Ins × Int)) (lb fb:ByteArray→Int) (p:Nat),CodeSure C→zcb C p (insN lb fb l1.said)→zcb C (p+1) (insN lb fb l2.said)→Sem C p (p+2) H Cn 2 Gv 1):Sq nk fs H Cn ([l1]++[l2]) 2 Gv 1:=fun C lb fb p q S _ L=>by
 obtain⟨h1,h2⟩:=zfc hk L;obtain⟨h3,h4⟩:=zfc hk2 h2;have e:p+1+1=q:=h4;rw [←e];exact hs C lb fb p S h1 h3
theorem regV{r:Nat}(h:r<8):(zap (ba (regW r))).toNat=r:=by
 rw [zas];unfold regN;rw [show reg (ba (regW r))=(r:Int) from zxZ r h];rfl
theorem numV{a:Int}(h:i64 a):zcc (ba (digL a))=a:=by
 unfold zcc;rw [zpL a h.1 h.2];rfl
theorem zxA(x1 x2:ByteArray):insN lb fb ⟨105,[ba [115,101,116],x1,x2],true⟩=.set (zap x1).toNat (zcc x2):=by
 unfold insN;rw [show opQ ⟨105,[ba [115,101,116],x1,x2],true⟩=_ from znT x1 x2 true];exact zk6 _ _ _ _ _ _
theorem zxB(x1 x2:ByteArray):insN lb fb ⟨105,[ba [105,110,99],x1,x2],true⟩=.inc (zap x1).toNat (zcc x2):=by
 unfold insN;rw [show opQ ⟨105,[ba [105,110,99],x1,x2],true⟩=_ from znU x1 x2 true];exact zk7 _ _ _ _ _ _
theorem zxC(x1 x2:ByteArray):insN lb fb ⟨105,[ba [109,111,118],x1,x2],true⟩=.mov (zap x1).toNat (zap x2).toNat:=by
 unfold insN;rw [show opQ ⟨105,[ba [109,111,118],x1,x2],true⟩=_ from znV x1 x2 true];exact zk8 _ _ _ _ _ _
theorem zvh(x1 x2:ByteArray):insN lb fb ⟨105,[ba [108,111,97,100],x1,x2],true⟩=.load (zap x1).toNat (zap x2).toNat:=by
 unfold insN;rw [show opQ ⟨105,[ba [108,111,97,100],x1,x2],true⟩=_ from zkC x1 x2 true];exact zi2 _ _ _ _ _ _
theorem zsg(x1 x2:ByteArray):insN lb fb ⟨105,[ba [115,116,111,114,101],x1,x2],true⟩=.store (zap x1).toNat (zap x2).toNat:=by
 unfold insN;rw [show opQ ⟨105,[ba [115,116,111,114,101],x1,x2],true⟩=_ from zi7 x1 x2 true];exact zg5 _ _ _ _ _ _
theorem zxD(x1 x2 x3:ByteArray):insN lb fb ⟨105,[ba [97,100,100],x1,x2,x3],true⟩=.alu 0 (zap x1).toNat (zap x2).toNat (zap x3).toNat:=by
 unfold insN;rw [show opQ ⟨105,[ba [97,100,100],x1,x2,x3],true⟩=_ from znW x1 x2 x3 true];exact zk9 _ _ _ _ _ _
theorem zxE(x1 x2 x3:ByteArray):insN lb fb ⟨105,[ba [115,117,98],x1,x2,x3],true⟩=.alu 1 (zap x1).toNat (zap x2).toNat (zap x3).toNat:=by
 unfold insN;rw [show opQ ⟨105,[ba [115,117,98],x1,x2,x3],true⟩=_ from znX x1 x2 x3 true];exact zkA _ _ _ _ _ _
theorem zxF(x1 x2 x3:ByteArray):insN lb fb ⟨105,[ba [109,117,108],x1,x2,x3],true⟩=.alu 2 (zap x1).toNat (zap x2).toNat (zap x3).toNat:=by
 unfold insN;rw [show opQ ⟨105,[ba [109,117,108],x1,x2,x3],true⟩=_ from znY x1 x2 x3 true];exact zkB _ _ _ _ _ _
theorem zvi(x1:ByteArray):insN lb fb ⟨105,[ba [114,101,97,100],x1],true⟩=.read (zap x1).toNat:=by
 unfold insN;rw [show opQ ⟨105,[ba [114,101,97,100],x1],true⟩=_ from zkD x1 true];exact zi3 _ _ _ _ _ _
theorem zsh(x1:ByteArray):insN lb fb ⟨105,[ba [119,114,105,116,101],x1],true⟩=.write (zap x1).toNat:=by
 unfold insN;rw [show opQ ⟨105,[ba [119,114,105,116,101],x1],true⟩=_ from zi8 x1 true];exact zg6 _ _ _ _ _ _
theorem zvj(x1:ByteArray):insN lb fb ⟨105,[ba [106,117,109,112],x1],true⟩=.jump (lb x1):=by
 unfold insN;rw [show zcC ⟨105,[ba [106,117,109,112],x1],true⟩=x1 from zg7 x1 true];exact zi4 _ _ _ _ _ _
theorem zvk(x1:ByteArray):insN lb fb ⟨105,[ba [99,97,108,108],x1],true⟩=.call (fb x1):=by
 unfold insN;rw [show zcC ⟨105,[ba [99,97,108,108],x1],true⟩=x1 from zg8 x1 true];exact zi5 _ _ _ _ _ _
theorem zvl(x1 x2 x3:ByteArray):insN lb fb ⟨105,[ba [108,101,115,115],x1,x2,x3],true⟩=.less (zap x1).toNat (zap x2).toNat (lb x3):=by
 unfold insN;rw [show zcC ⟨105,[ba [108,101,115,115],x1,x2,x3],true⟩=x3 from zg9 x1 x2 x3 true,show opQ ⟨105,[ba [108,101,115,115],x1,x2,x3],true⟩=_ from zkE x1 x2 x3 true];exact zi6 _ _ _ _ _ _
theorem zvm:insN lb fb ⟨105,[ba [98,97,99,107]],true⟩=.back:=by
 unfold insN;exact zfU _ _ _ _ _ _
theorem zfd{r:Nat}{a:Int}(hr:r<8)(ha:i64 a):(setL r a).said.kind=105∧insN lb fb (setL r a).said=.set r a:=by
 rw [zx6 hr ha.1 ha.2,zxA,regV hr,numV ha];exact⟨rfl,rfl⟩
theorem zpY{r:Nat}{a:Int}(hr:r<8)(ha:i64 a):(incL r a).said.kind=105∧insN lb fb (incL r a).said=.inc r a:=by
 have e:(incL r a).said=⟨105,[ba [105,110,99],ba (regW r),ba (digL a)],true⟩:=zco [105,110,99] [regW r,digL a] [82,75] (by decide) (by decide) (by decide) (by kernel_rfl) (by decide) rfl (by simp [za1,zpP a ha.1 ha.2,zbo r hr]);rw [e,zxB,regV hr,numV ha];exact⟨rfl,rfl⟩
theorem zyh{i j:Nat}(hi:i<8)(hj:j<8):(movL i j).said.kind=105∧insN lb fb (movL i j).said=.mov i j:=by
 have e:(movL i j).said=⟨105,[ba [109,111,118],ba (regW i),ba (regW j)],true⟩:=zco [109,111,118] [regW i,regW j] [82,82] (by decide) (by decide) (by decide) (by kernel_rfl) (by decide) rfl (by simp [za1,zbo i hi,zbo j hj]);rw [e,zxC,regV hi,regV hj];exact⟨rfl,rfl⟩
theorem zli{i j:Nat}(hi:i<8)(hj:j<8):(zgO i j).said.kind=105∧insN lb fb (zgO i j).said=.load i j:=by
 have e:(zgO i j).said=⟨105,[ba [108,111,97,100],ba (regW i),ba (regW j)],true⟩:=zco [108,111,97,100] [regW i,regW j] [82,82] (by decide) (by decide) (by decide) (by kernel_rfl) (by decide) rfl (by simp [za1,zbo i hi,zbo j hj]);rw [e,zvh,regV hi,regV hj];exact⟨rfl,rfl⟩
theorem zhH{i j:Nat}(hi:i<8)(hj:j<8):(zdL i j).said.kind=105∧insN lb fb (zdL i j).said=.store i j:=by
 have e:(zdL i j).said=⟨105,[ba [115,116,111,114,101],ba (regW i),ba (regW j)],true⟩:=zco [115,116,111,114,101] [regW i,regW j] [82,82] (by decide) (by decide) (by decide) (by kernel_rfl) (by decide) rfl (by simp [za1,zbo i hi,zbo j hj]);rw [e,zsg,regV hi,regV hj];exact⟨rfl,rfl⟩
theorem zvn{i:Nat}(hi:i<8):(zse i).said.kind=105∧insN lb fb (zse i).said=.read i:=by
 have e:(zse i).said=⟨105,[ba [114,101,97,100],ba (regW i)],true⟩:=zco [114,101,97,100] [regW i] [82] (by decide) (by decide) (by decide) (by kernel_rfl) (by decide) rfl (by simp [za1,zbo i hi]);rw [e,zvi,regV hi];exact⟨rfl,rfl⟩
theorem zpZ{i:Nat}(hi:i<8):(zjw i).said.kind=105∧insN lb fb (zjw i).said=.write i:=by
 have e:(zjw i).said=⟨105,[ba [119,114,105,116,101],ba (regW i)],true⟩:=zco [119,114,105,116,101] [regW i] [82] (by decide) (by decide) (by decide) (by kernel_rfl) (by decide) rfl (by simp [za1,zbo i hi]);rw [e,zsh,regV hi];exact⟨rfl,rfl⟩
theorem zAo(o:Nat){i j k:Nat}(hi:i<8)(hj:j<8)(hk:k<8):(aluL o i j k).said.kind=105∧∃ o',∀ lb fb,insN lb fb (aluL o i j k).said=.alu o' i j k:=by
 unfold aluL aluW;split
 ·have e:(⟨true,[[97,100,100],regW i,regW j,regW k]⟩:Ln).said=⟨105,[ba [97,100,100],ba (regW i),ba (regW j),ba (regW k)],true⟩:=zco [97,100,100] [regW i,regW j,regW k] [82,82,82] (by decide) (by decide) (by decide) (by kernel_rfl) (by decide) rfl (by simp [za1,zbo i hi,zbo j hj,zbo k hk]);rw [e];exact⟨rfl,0,fun lb fb=>by rw [zxD,regV hi,regV hj,regV hk]⟩
 ·split
  ·have e:(⟨true,[[115,117,98],regW i,regW j,regW k]⟩:Ln).said=⟨105,[ba [115,117,98],ba (regW i),ba (regW j),ba (regW k)],true⟩:=zco [115,117,98] [regW i,regW j,regW k] [82,82,82] (by decide) (by decide) (by decide) (by kernel_rfl) (by decide) rfl (by simp [za1,zbo i hi,zbo j hj,zbo k hk]);rw [e];exact⟨rfl,1,fun lb fb=>by rw [zxE,regV hi,regV hj,regV hk]⟩
  ·have e:(⟨true,[[109,117,108],regW i,regW j,regW k]⟩:Ln).said=⟨105,[ba [109,117,108],ba (regW i),ba (regW j),ba (regW k)],true⟩:=zco [109,117,108] [regW i,regW j,regW k] [82,82,82] (by decide) (by decide) (by decide) (by kernel_rfl) (by decide) rfl (by simp [za1,zbo i hi,zbo j hj,zbo k hk]);rw [e];exact⟨rfl,2,fun lb fb=>by rw [zxF,regV hi,regV hj,regV hk]⟩
theorem zlj{n:Nat}(hn:n≤1000000):(zcA n).said.kind=105∧insN lb fb (zcA n).said=.jump (lb (ba (labW n))):=by
 rw [zjq n hn,zvj];exact⟨rfl,rfl⟩
theorem zvo{i j n:Nat}(hi:i<8)(hj:j<8)(hn:n≤1000000):(ze4 i j n).said.kind=105∧insN lb fb (ze4 i j n).said=.less i j (lb (ba (labW n))):=by
 rw [zmQ hi hj n hn,zvl,regV hi,regV hj];exact⟨rfl,rfl⟩
theorem zvp{n:Nat}(hn:n≤1000000):(callL n).said.kind=105∧insN lb fb (callL n).said=.call (fb (ba (fnW n))):=by
 rw [zmR n hn,zvk];exact⟨rfl,rfl⟩
theorem zvq:zbZ.said.kind=105∧insN lb fb zbZ.said=.back:=by
 rw [zdJ,zvm];exact⟨rfl,rfl⟩
def fb0:ByteArray→Int:=fun _=>0
theorem Sq.set{r:Nat}{a:Int}(hr:r<8)(ha:i64 a)(h1:H r=false)(h2:Gv r=true):Sq nk fs H Cn [setL r a] 1 Gv 1:=.one (zfd (lb:=fb0) (fb:=fb0) hr ha).1 fun _ lb fb _ S hi=>.set S ((zfd (lb:=lb) (fb:=fb) hr ha).2▸hi) h1 h2
theorem Sq.inc{r:Nat}{a:Int}(hr:r<8)(ha:i64 a)(h1:H r=false)(h2:Gv r=true):Sq nk fs H Cn [incL r a] 1 Gv 1:=.one (zpY (lb:=fb0) (fb:=fb0) hr ha).1 fun _ lb fb _ S hi=>.inc S ((zpY (lb:=lb) (fb:=fb) hr ha).2▸hi) h1 h2
theorem Sq.mov{r x:Nat}(hr:r<8)(hx:x<8)(h1:H r=false)(h2:Gv r=true):Sq nk fs H Cn [movL r x] 1 Gv 1:=.one (zyh (lb:=fb0) (fb:=fb0) hr hx).1 fun _ lb fb _ S hi=>.mov S ((zyh (lb:=lb) (fb:=fb) hr hx).2▸hi) h1 h2
theorem Sq.alu(o:Nat){r x y:Nat}(hr:r<8)(hx:x<8)(hy:y<8)(h1:H r=false)(h2:Gv r=true):Sq nk fs H Cn [aluL o r x y] 1 Gv 1:=by
 obtain⟨a,o',b⟩:=zAo o hr hx hy;exact .one a fun _ lb fb _ S hi=>.alu S (b lb fb▸hi) h1 h2
theorem Sq.read{r:Nat}(hr:r<8)(h1:H r=false)(h2:Gv r=true):Sq nk fs H Cn [zse r] 1 Gv 1:=.one (zvn (lb:=fb0) (fb:=fb0) hr).1 fun _ lb fb _ S hi=>.read S ((zvn (lb:=lb) (fb:=fb) hr).2▸hi) h1 h2
theorem Sq.write{r:Nat}(hr:r<8):Sq nk fs H Cn [zjw r] 1 Gv 1:=.one (zpZ (lb:=fb0) (fb:=fb0) hr).1 fun _ lb fb _ S hi=>.write S ((zpZ (lb:=lb) (fb:=fb) hr).2▸hi)
theorem Sq.load{r c:Nat}(hr:r<8)(hc:c<8)(hm:c∈Cn)(h1:H r=false)(h2:Gv r=true):Sq nk fs H Cn [zgO r c] 1 Gv 1:=.one (zli (lb:=fb0) (fb:=fb0) hr hc).1 fun _ lb fb _ S hi=>.load S ((zli (lb:=lb) (fb:=fb) hr hc).2▸hi) hm h1 h2
theorem Sq.store{c r:Nat}(hc:c<8)(hr:r<8)(hm:c∈Cn):Sq nk fs H Cn [zdL c r] 1 Gv 1:=.one (zhH (lb:=fb0) (fb:=fb0) hc hr).1 fun _ lb fb _ S hi=>.store S ((zhH (lb:=lb) (fb:=fb) hc hr).2▸hi) hm
theorem Sq.loadN{x r:Nat}{n:Int}(hx:x<8)(hr:r<8)(n0:0≤n)(n1:n≤15)(hx1:H x=false)(hx2:Gv x=true)(h1:H r=false)(h2:Gv r=true):Sq nk fs H Cn ([setL x n]++[zgO r x]) 2 Gv 1:=by
 have a:i64 n:=⟨by omega,by omega⟩
 exact .both (zfd (lb:=fb0) (fb:=fb0) hx a).1 (zli (lb:=fb0) (fb:=fb0) hr hx).1 fun _ lb fb _ S i1 i2=>.loadN S ((zfd (lb:=lb) (fb:=fb) hx a).2▸i1) ((zli (lb:=lb) (fb:=fb) hr hx).2▸i2) n0 n1 hx1 hx2 h1 h2
theorem Sq.storeN{x r:Nat}{n:Int}(hx:x<8)(hr:r<8)(n0:0≤n)(n1:n≤15)(hx1:H x=false)(hx2:Gv x=true):Sq nk fs H Cn ([setL x n]++[zdL x r]) 2 Gv 1:=by
 have a:i64 n:=⟨by omega,by omega⟩
 exact .both (zfd (lb:=fb0) (fb:=fb0) hx a).1 (zhH (lb:=fb0) (fb:=fb0) hx hr).1 fun _ lb fb _ S i1 i2=>.storeN S ((zfd (lb:=lb) (fb:=fb) hx a).2▸i1) ((zhH (lb:=lb) (fb:=fb) hx hr).2▸i2) n0 n1 hx1 hx2
theorem Sq.call{j:Nat}(hj:j<nk)(hn:nk≤1000000)(hw:(fs j).wt<1073741824)(hH:∀ r,H r=true→(fs j).gv r=false)(hG:∀ r,(fs j).gv r=true→Gv r=true):Sq nk fs H Cn [callL j] ((fs j).wt+2) Gv ((fs j).fr+1):=fun C lb fb p q S K L=>by
 obtain⟨h1,h2⟩:=zfc (zvp (lb:=fb0) (fb:=fb0) (n:=j) (by omega)).1 L;have e:p+1=q:=h2;obtain⟨ent,e2,h3,h4⟩:=K j hj hw;rw [(zvp (lb:=lb) (fb:=fb) (n:=j) (by omega)).2,h3] at h1;rw [←e];exact .call S h1 h4 hH hG
theorem Sq.loop{c i n:Nat}{a b z:Int}(hi:i<8)(hn:n<8)(hin:¬i=n)(Hi:H i=false)(Hn:H n=false)(Gi:Gv i=true)(Gn:Gv n=true)(c0:1≤z)(c1:z≤1000)(a0:-4611686018427387904≤a)(a1:a≤4611686018427387904)(b0:-4611686018427387904≤b)(b1:b≤4611686018427387904)
  (Cn':List Nat) (hC:∀ x∈Cn',x∈Cn∨(x=i∧0≤a∧b≤16)) (body:Sq nk fs (zeh H i n) Cn' B wt Gv f) (hFr:1≤f) (t:Nat) (ht:b≤a+(t:Int)*z) (hc:c+3≤1000000) :
  Sq nk fs H Cn ([setL i a,setL n b,labL (c+1),ze4 i n (c+2),zcA (c+3),labL (c+2)]++B++[incL i z,zcA (c+1),labL (c+3)]) (t*(wt+3)+4) Gv f:=fun C lb fb p q S K L=>by
 have ia:i64 a:=⟨by omega,by omega⟩
 have ib:i64 b:=⟨by omega,by omega⟩
 have iz:i64 z:=⟨by omega,by omega⟩
 rw [List.append_assoc] at L;obtain⟨h1,L⟩:=zfc (zfd (lb:=lb) (fb:=fb) hi ia).1 L;obtain⟨h2,L⟩:=zfc (zfd (lb:=lb) (fb:=fb) hn ib).1 L;obtain⟨h3,L⟩:=zvg (by omega) L;obtain⟨h4,L⟩:=zfc (zvo (lb:=lb) (fb:=fb) hi hn (by omega)).1 L;obtain⟨h5,L⟩:=zfc (zlj (lb:=lb) (fb:=fb) (by omega)).1 L;obtain⟨h6,L⟩:=zvg (by omega) L;have L:Lies C lb fb (B++[incL i z,zcA (c+1),labL (c+3)]) (p+4) q:=L;obtain⟨e,LB,L⟩:=L.app;obtain⟨h7,L⟩:=zfc (zpY (lb:=lb) (fb:=fb) hi iz).1 L;obtain⟨h8,L⟩:=zfc (zlj (lb:=lb) (fb:=fb) (by omega)).1 L;obtain⟨h9,L⟩:=zvg (by omega) L;have eq:e+1+1=q:=L;rw [(zfd hi ia).2] at h1;rw [(zfd hn ib).2] at h2;rw [(zvo hi hn (by omega)).2,h6] at h4;rw [(zlj (by omega)).2,h9] at h5;rw [(zpY hi iz).2] at h7;rw [(zlj (by omega)).2,h3] at h8;have LA:LoopAt C p e i n a b z:=⟨h1,h2,h4,h5,h7,h8,LB.le⟩
 rw [←eq];exact .loop S LA hi hin Hi Hn Gi Gn c0 c1 a0 a1 b1 Cn' hC (body C lb fb (p+4) e S K LB) hFr t ht
end
section
open Go.RowKit Sp
attribute [local go_sem ↓] Go.wp_at_zero Go.wp_at_succ
theorem WrM.cx{B:Nat}{w:World}{b px:Nat}{cv:Value}{code:List Int}{S:Wst}{k:Nat}{V:Nat→Value}(h:WrM B w b px cv code S k V):w.cell? ⟨b,0,none⟩=some (.pointer (some ⟨px,0,none⟩)):=by rw [←h.v0];exact h.blk.cell 0 (by omega)
theorem WrM.alloc{B:Nat}{w:World}{b px:Nat}{cv:Value}{code:List Int}{S:Wst}{k:Nat}{V:Nat→Value}(h:WrM B w b px cv code S k V)(x:Obj):WrM B (w.alloc x) b px cv code S k V:=h.below ((Below.refl _ _).alloc (Nat.le_refl _) _) h.base
theorem WrM.drewN{B:Nat}{w:World}{b px:Nat}{cv:Value}{code:List Int}{S:Wst}{k:Nat}{V:Nat→Value}(h:WrM B w b px cv code S k V)(n:Nat):WrM B (w.drewN n) b px cv code S k V:=h.below (zbD _ _ _) h.base
theorem WrM.drew{B:Nat}{w:World}{b px:Nat}{cv:Value}{code:List Int}{S:Wst}{k:Nat}{V:Nat→Value}(h:WrM B w b px cv code S k V):WrM B w.drew b px cv code S k V:=h.below (Below.refl _ _).drew h.base
theorem Hid.out2{p:Prop}(h:Hid p):p:=h
def PcPost(B:Nat)(w:World)(b px:Nat)(cv:Value)(code:List Int)(V:Nat→Value)(S:Wst)(most lab:Nat)(w':World)(z:Nat):Prop :=
 ∃(A:List Ln) (c:Nat),Pc S.nk S.labels c A∧A.length≤most∧c≤S.labels+lab∧∃ k' V',WrM B w' b px cv code { S with lines:=S.lines++A,labels:=c } k' V'∧Fr b px w V w' V'∧(z<1073741824→Sq S.nk S.fs S.held S.counts A z (gvOf V') (frOf V'))
theorem pcp{B:Nat}{w:World}{b px:Nat}{cv:Value}{code:List Int}{V V':Nat→Value}{S S1:Wst}{most lab c z k':Nat}{w':World}{A:List Ln}(hp:Pc S.nk S.labels c A)(hl:A.length≤most)(hc:c≤S.labels+lab)(M:WrM B w' b px cv code S1 k' V')(F:Fr b px w V w' V')(q:Sq S.nk S.fs S.held S.counts A z (gvOf V') 1)(e:S1={ S with lines:=S.lines++A,labels:=c }):PcPost B w b px cv code V S most lab w' z :=
 ⟨A,c,hp,hl,hc,k',V',e▸M,F,fun _=>q.mono (Nat.le_refl _) (fun _ h=>h) M.fr1.1⟩
def zoQ(B:Nat)(w:World)(b px:Nat)(cv:Value)(code:List Int)(V:Nat→Value)(S:Wst)(w':World):Prop :=
 ∃ l,Plain l∧∃ k' V',WrM B w' b px cv code { S with lines:=S.lines++[l] } k' V'∧Fr b px w V w' V'∧Sq S.nk S.fs S.held S.counts [l] 1 (gvOf V') 1
theorem zvr{B:Nat}{w w1:World}{b px:Nat}{cv:Value}{code:List Int}{V V1:Nat→Value}{S:Wst}{w':World}(f:Fr b px w V w1 V1)(h:zoQ B w1 b px cv code V1 S w'):PcPost B w b px cv code V S 2 0 w' 1:=by
 obtain⟨l,a,k',V',M,F,q⟩:=h;exact pcp (.ins _ a) (by simp) (Nat.le_refl _) M (f.trans F) q rfl
theorem zoR(x:Nat){n:Int}(h:(x:Int)≤n)(hn:n≤9223372036854775807):i64 (x:Int):=⟨by omega,by omega⟩
theorem zfe(n:Nat){D:ByteArray}(h:D.size≤21)(hn:n≤1000):¬9223372036854775807<n+D.size:=by omega
theorem zhI{r:Nat}{K:Int}{A D:ByteArray}(h1:Hid (A=ba (regW r)))(h2:Hid (D=ba (digL K))):ba (setL r K).bytes=ba [9]++((⟨#[115,101,116,32]⟩:ByteArray)++A++(⟨#[32]⟩:ByteArray)++D):=by
 rw [show A=_ from h1,show D=_ from h2];exact ln2 _ _ _
theorem zxG{r:Nat}{K:Int}{A D:ByteArray}(h1:Hid (A=ba (regW r)))(h2:Hid (D=ba (digL K))):ba (incL r K).bytes=ba [9]++((⟨#[105,110,99,32]⟩:ByteArray)++A++(⟨#[32]⟩:ByteArray)++D):=by
 rw [show A=_ from h1,show D=_ from h2];exact ln2 _ _ _
theorem zjy{r q:Nat}{A D:ByteArray}(h1:Hid (A=ba (regW r)))(h2:Hid (D=ba (regW q))):ba (zgO r q).bytes=ba [9]++((⟨#[108,111,97,100,32]⟩:ByteArray)++A++(⟨#[32]⟩:ByteArray)++D):=by
 rw [show A=_ from h1,show D=_ from h2];exact ln2 _ _ _
theorem zgQ{r q:Nat}{A D:ByteArray}(h1:Hid (A=ba (regW r)))(h2:Hid (D=ba (regW q))):ba (zdL r q).bytes=ba [9]++((⟨#[115,116,111,114,101,32]⟩:ByteArray)++A++(⟨#[32]⟩:ByteArray)++D):=by
 rw [show A=_ from h1,show D=_ from h2];exact ln2 _ _ _
theorem zbQ{c:Array UInt8}{A D:ByteArray}(hc:c.size≤10)(h1:A.size≤21)(h2:D.size≤21):((⟨c⟩:ByteArray)++A++(⟨#[32]⟩:ByteArray)++D).size≤1000:=by
 have e:(⟨#[32]⟩:ByteArray).size=1:=rfl;have e2:(⟨c⟩:ByteArray).size=c.size:=rfl;simp only [ByteArray.size_append];omega
theorem WrM.cnts{B:Nat}{w:World}{b px:Nat}{cv:Value}{code:List Int}{S:Wst}{k:Nat}{V:Nat→Value}(h:WrM B w b px cv code S k V){g cap:Nat}(hv:V 11=.slice (some ⟨g,0,none⟩) S.counts.length cap):∀ j,j<S.counts.length→w.cell? ⟨g,j,none⟩=some (.int .i64 ((S.counts.getD j 0:Nat):Int)):=fun j hj=>by
 have hc:=h.counts;rw [hv] at hc;refine zdy hc j _ ?_;rw [List.getElem?_map,List.getElem?_eq_getElem hj,List.getD_eq_getElem?_getD,List.getElem?_eq_getElem hj];rfl
theorem WrM.cntsLe{B:Nat}{w:World}{b px:Nat}{cv:Value}{code:List Int}{S:Wst}{k:Nat}{V:Nat→Value}(h:WrM B w b px cv code S k V){g cap:Nat}(_hv:V 11=.slice (some ⟨g,0,none⟩) S.counts.length cap):S.counts.length≤9223372036854775807:=by
 obtain⟨ao,c,e,a,d,_⟩:=zd7 h.counts;exact Nat.le_trans a (Nat.le_trans d (by decide))
theorem WrM.three{B:Nat}{w:World}{b px:Nat}{cv:Value}{code:List Int}{S:Wst}{k:Nat}{V:Nat→Value}(h:WrM B w b px cv code S k V){g cap:Nat}(hv:V 11=.slice (some ⟨g,0,none⟩) S.counts.length cap):w.cell? ⟨b,0,none⟩=some (.pointer (some ⟨px,0,none⟩))∧w.cell? ⟨b,11,none⟩=some (.slice (some ⟨g,0,none⟩) S.counts.length cap)∧∀ j,j<S.counts.length→w.cell? ⟨g,j,none⟩=some (.int .i64 ((S.counts.getD j 0:Nat):Int)) :=
 ⟨h.cx,by rw [←hv];exact h.blk.cell 11 (by omega),h.cnts hv⟩
theorem zxH{B:Nat}{w:World}{b px:Nat}{cv:Value}{code:List Int}{S:Wst}{k:Nat}{V:Nat→Value}(M:WrM B w b px cv code S k V)(rf:Nat)(hrf:rf<8)(hf:S.held rf=false)(hn:S.lines.length≤10000):
  Calls Tryz.prog 95 #[.pointer (some ⟨b,0,none⟩)] w fun e w'=>∃ n:Nat,(e=.returned (.int .i64 (n:Int))∧n≤2)∧PcPost B w b px cv code V S 2 0 w' n:=by
 have c0:=M.cx;have v:=M.blk.cell 11 (by omega);obtain⟨ao,ah,hv⟩:=zba M.counts;rw [hv] at v;have F:=Fr.refl b px w V;by_cases hc:S.counts.length=0
 ·rw [hc] at v hv;go_enter Tryz.func95,Tryz.ntmps95;go_wp2_with(first
   | (go_at_call 118;(with_reducible refine(zca M rf hrf hf).mono ?_);rintro e w5 ⟨r,rfl,o,hh,k5,V5,z,f5,u5⟩;have F5:=F.trans f5;have Q:=z.cx))
  clear c0 v F f5;have J:=Q;go_region_held3 (fun W=>W.cell? ⟨b,0,none⟩=some (.pointer (some ⟨px,0,none⟩)))
   (first
     | exact J
     | exact O
     | exact H3
     | exact H4
     | exact H5)
   (first
     | (go_at_call 38;(with_reducible refine(zbp r o _).mono ?_);rintro e w6 ⟨A1,rfl,I,f,a⟩;have s:=z.drew.below a z.drew.base;have O:=s.cx;have N:=(F5.trans (Fr.low (Below.refl _ _).drew)).trans (.low a))
     | (go_at_call 41;(with_reducible refine(zax s 16 (by omega)).mono ?_);rintro e w7 ⟨x,rfl,hx,k7,V7,m,L⟩;have C:=N.trans L;have u5:=L.gv _ u5;have H3:=m.cx;have y:=zoR x (Int.le_of_lt hx) (by decide))
     | (go_at_call 36;(with_reducible refine(zfb (x:Int) y _).mono ?_);rintro e w8 ⟨D,rfl,zD,hD,R⟩;have l:=m.below R m.base;have H4:=l.cx;have E:=C.trans (.low R);have aj:=zfe 7 zD (by decide))
     | (go_at_call 62;(with_reducible refine(zbE l (setL r (x:Int)) _ (zhI f hD) (zbQ (by decide) (by omega) zD) (by omega)).mono ?_);rintro e w9 ⟨rfl,k9,V9,u,f9⟩;have H5:=u.cx;have G:=E.trans f9;have u5:=f9.gv _ u5))
  have U:=ze7 o y;have z:=u;have F5:=G;clear J Q;have Q:=z.cx;go_wp2_with(first
   | (go_at_call 41;(with_reducible refine(zax z 2 (by omega)).mono ?_);rintro e w6 ⟨t,rfl,ht,k6,V6,s,f6⟩;have N:=F5.trans f6;have u5:=f6.gv _ u5;refine Hid.out ?_))
  unfold Hid;have H:t=0∨t=1:=by omega
  have c6:=s.cx;clear Q f6;rcases H with rfl|rfl
  ·go_wp2_with(first
    | (go_at_call 118;(with_reducible refine(zca s rf hrf hf).mono ?_);rintro e w7 ⟨q,rfl,K,T,k7,V7,m,L,u7⟩;have C:=N.trans L;have u5:=L.gv _ u5)
    | (go_at_call 38;first
        | ((with_reducible refine(zbp q K _).mono ?_);rintro e w8 ⟨A1,rfl,I,f,a⟩;have l:=m.below a m.base;have E:=C.trans (.low a))
        | ((with_reducible refine(zbp r o _).mono ?_);rintro e w9 ⟨A2,rfl,Z,p,c⟩;have u:=l.below c l.base;have G:=E.trans (.low c)))
    | (go_at_call 62;refine Hid.out ?_))
   unfold Hid;refine(zbE u (zgO q r) _ (zjy f p) (zbQ (by decide) (by omega) (by omega)) (by first|omega|(simp;omega))).mono ?_;rintro e Y ⟨rfl,X,P,h,d⟩;dsimp only;go_wp2;go_ret;exact⟨2,⟨rfl,by omega⟩,pcp (A:=[setL r (x:Int)]++[zgO q r]) (.app (.ins _ U) (.ins _ (zgP K o))) (by simp) (Nat.le_refl _) h (G.trans d) (.loadN o K (by omega) (by omega) hh (d.gv _ u5) T (d.gv _ u7)) (by simp)⟩
  ·go_wp2_with(first
    | (go_at_call 38;refine Hid.out ?_))
   have J:=c6;go_region_held3 (fun W=>W.cell? ⟨b,0,none⟩=some (.pointer (some ⟨px,0,none⟩)))
    (first
      | exact J
      | exact O
      | exact H3
      | exact H4
      | exact H5)
    (first
      | (go_at_call 38;first
          | ((with_reducible refine(zbp r o _).mono ?_);rintro e w7 ⟨A1,rfl,I,f,a⟩;have m:=s.drew.below a s.drew.base;have O:=m.cx;have C:=(N.trans (Fr.low (Below.refl _ _).drew)).trans (.low a))
          | ((with_reducible refine(zbp q (by omega) _).mono ?_);rintro e w9 ⟨A2,rfl,Z,p,c⟩;have u:=l.below c l.base;have H4:=u.cx;have G:=E.trans (.low c)))
      | (go_at_call 41;(with_reducible refine(zax m 8 (by omega)).mono ?_);rintro e w8 ⟨q,rfl,K,k8,V8,l,f8⟩;have E:=C.trans f8;have H3:=l.cx;have u5:=f8.gv _ u5)
      | (go_at_call 62;(with_reducible refine(zbE u (zdL r q) _ (zgQ f p) (zbQ (by decide) (by omega) (by omega)) (by first|omega|(simp;omega))).mono ?_);rintro e Y ⟨rfl,X,P,h,d⟩;have H5:=h.cx))
   go_wp2;go_ret;exact⟨2,⟨rfl,by omega⟩,pcp (A:=[setL r (x:Int)]++[zdL r q]) (.app (.ins _ U) (.ins _ (zf8 o (by omega)))) (by simp) (Nat.le_refl _) h (G.trans d) (.storeN o (by omega) (by omega) (by omega) hh (d.gv _ u5)) (by simp)⟩
 ·clear v;obtain⟨g,ah,hv,hgB,hgl⟩:=(M.counts).form (by omega);have v:=M.blk.cell 11 (by omega);rw [hv] at v;have ae:=M.cnts hv;have hl0:¬(S.counts.length:Int)=0:=by omega
  have ai:(0:Int)<(S.counts.length:Int):=by omega
  have hlb:S.counts.length≤9223372036854775807:=M.cntsLe hv;go_enter Tryz.func95,Tryz.ntmps95;go_wp2_with(first
   | (go_at_call 41;(with_reducible refine(zax M 2 (by omega)).mono ?_);rintro e w1 ⟨t,rfl,ht,k1,V1,M1,f1⟩;refine Hid.out ?_))
  unfold Hid;have H:t=0∨t=1:=by omega
  rcases H with rfl|rfl
  ·obtain⟨g1,ab,ag,_,hgl1⟩:=(M1.counts).form (by omega);have c1:=M1.cx;have d1:=M1.blk.cell 11 (by omega);rw [ag] at d1;have ac:=M1.cnts ag;have J:w1.cell? ⟨b,0,none⟩=some (.pointer (some ⟨px,0,none⟩))∧w1.cell? ⟨b,11,none⟩=some (.slice (some ⟨g1,0,none⟩) S.counts.length ab)∧∀ j,j<S.counts.length→w1.cell? ⟨g1,j,none⟩=some (.int .i64 ((S.counts.getD j 0:Nat):Int)):=⟨c1,d1,ac⟩
   clear ae v c0;go_wp2_with fail
   go_region_held3 (fun W=>W.cell? ⟨b,0,none⟩=some (.pointer (some ⟨px,0,none⟩))∧W.cell? ⟨b,11,none⟩=some (.slice (some ⟨g1,0,none⟩) S.counts.length ab)∧∀ j,j<S.counts.length→W.cell? ⟨g1,j,none⟩=some (.int .i64 ((S.counts.getD j 0:Nat):Int)))
    (first
      | exact J
      | exact O)
    (first
      | (go_at_call 41;(with_reducible refine(ze5 M1.drew.blk.di (S.counts.length:Int) ai).mono ?_);rintro e w2 ⟨i,rfl,hi,k2,D2,g2⟩;have M2:=M1.drew.threw D2 g2;have O:=M2.three ag;have af:i<S.counts.length:=Int.ofNat_lt.1 hi;have hi0:(0:Int)≤(i:Int):=Int.natCast_nonneg _))
   have o:=M2.cnt8 _ (List.getElem_mem af);have ad:S.counts[i]∈S.counts:=List.getElem_mem af;generalize S.counts[i]=r at o ad ⊢;have z:=M2;have F5:=(f1.trans (Fr.low (Below.refl _ _).drew)).trans (Fr.grown g2);clear J c1 d1 ac;have Q:=z.cx;go_wp2_with(first
    | (go_at_call 41;(with_reducible refine(zax z 2 (by omega)).mono ?_);rintro e w6 ⟨t,rfl,ht,k6,V6,s,f6⟩;have N:=F5.trans f6;refine Hid.out ?_))
   unfold Hid;have H:t=0∨t=1:=by omega
   have c6:=s.cx;clear Q f6;rcases H with rfl|rfl
   ·go_wp2_with(first
     | (go_at_call 118;(with_reducible refine(zca s rf hrf hf).mono ?_);rintro e w7 ⟨q,rfl,K,T,k7,V7,m,L,u7⟩;have C:=N.trans L)
     | (go_at_call 38;first
         | ((with_reducible refine(zbp q K _).mono ?_);rintro e w8 ⟨A1,rfl,I,f,a⟩;have l:=m.below a m.base;have E:=C.trans (.low a))
         | ((with_reducible refine(zbp r o _).mono ?_);rintro e w9 ⟨A2,rfl,Z,p,c⟩;have u:=l.below c l.base;have G:=E.trans (.low c)))
     | (go_at_call 62;refine Hid.out ?_))
    unfold Hid;refine(zbE u (zgO q r) _ (zjy f p) (zbQ (by decide) (by omega) (by omega)) (by first|omega|(simp;omega))).mono ?_;rintro e Y ⟨rfl,X,P,h,d⟩;dsimp only;go_wp2;go_ret;exact⟨1,⟨rfl,by omega⟩,pcp (A:=[zgO q r]) (.ins _ (zgP K o)) (by simp) (Nat.le_refl _) h (G.trans d) (.load K o ad T (d.gv _ u7)) (by simp)⟩
   ·go_wp2_with(first
     | (go_at_call 38;refine Hid.out ?_))
    have J:=c6;go_region_held3 (fun W=>W.cell? ⟨b,0,none⟩=some (.pointer (some ⟨px,0,none⟩)))
     (first
       | exact J
       | exact O
       | exact H3
       | exact H4
       | exact H5)
     (first
       | (go_at_call 38;first
           | ((with_reducible refine(zbp r o _).mono ?_);rintro e w7 ⟨A1,rfl,I,f,a⟩;have m:=s.drew.below a s.drew.base;have O:=m.cx;have C:=(N.trans (Fr.low (Below.refl _ _).drew)).trans (.low a))
           | ((with_reducible refine(zbp q (by omega) _).mono ?_);rintro e w9 ⟨A2,rfl,Z,p,c⟩;have u:=l.below c l.base;have H4:=u.cx;have G:=E.trans (.low c)))
       | (go_at_call 41;(with_reducible refine(zax m 8 (by omega)).mono ?_);rintro e w8 ⟨q,rfl,K,k8,V8,l,f8⟩;have E:=C.trans f8;have H3:=l.cx)
       | (go_at_call 62;(with_reducible refine(zbE u (zdL r q) _ (zgQ f p) (zbQ (by decide) (by omega) (by omega)) (by first|omega|(simp;omega))).mono ?_);rintro e Y ⟨rfl,X,P,h,d⟩;have H5:=h.cx))
    go_wp2;go_ret;exact⟨1,⟨rfl,by omega⟩,pcp (A:=[zdL r q]) (.ins _ (zf8 o (by omega))) (by simp) (Nat.le_refl _) h (G.trans d) (.store o (by omega) ad) (by simp)⟩
  ·have c1:=M1.cx;go_wp2_with(first
    | (go_at_call 118;(with_reducible refine(zca M1 rf hrf hf).mono ?_);rintro e w5 ⟨r,rfl,o,hh,k5,V5,z,f5,u5⟩;have F5:=f1.trans f5;have Q:=z.cx))
   clear c0 v F f5 c1 ae;have J:=Q;go_region_held3 (fun W=>W.cell? ⟨b,0,none⟩=some (.pointer (some ⟨px,0,none⟩)))
    (first
      | exact J
      | exact O
      | exact H3
      | exact H4
      | exact H5)
    (first
      | (go_at_call 38;(with_reducible refine(zbp r o _).mono ?_);rintro e w6 ⟨A1,rfl,I,f,a⟩;have s:=z.drew.below a z.drew.base;have O:=s.cx;have N:=(F5.trans (Fr.low (Below.refl _ _).drew)).trans (.low a))
      | (go_at_call 41;(with_reducible refine(zax s 16 (by omega)).mono ?_);rintro e w7 ⟨x,rfl,hx,k7,V7,m,L⟩;have C:=N.trans L;have u5:=L.gv _ u5;have H3:=m.cx;have y:=zoR x (Int.le_of_lt hx) (by decide))
      | (go_at_call 36;(with_reducible refine(zfb (x:Int) y _).mono ?_);rintro e w8 ⟨D,rfl,zD,hD,R⟩;have l:=m.below R m.base;have H4:=l.cx;have E:=C.trans (.low R);have aj:=zfe 7 zD (by decide))
      | (go_at_call 62;(with_reducible refine(zbE l (setL r (x:Int)) _ (zhI f hD) (zbQ (by decide) (by omega) zD) (by omega)).mono ?_);rintro e w9 ⟨rfl,k9,V9,u,f9⟩;have H5:=u.cx;have G:=E.trans f9;have u5:=f9.gv _ u5))
   have U:=ze7 o y;have z:=u;have F5:=G;clear J Q;have Q:=z.cx;go_wp2_with(first
    | (go_at_call 41;(with_reducible refine(zax z 2 (by omega)).mono ?_);rintro e w6 ⟨t,rfl,ht,k6,V6,s,f6⟩;have N:=F5.trans f6;have u5:=f6.gv _ u5;refine Hid.out ?_))
   unfold Hid;have H:t=0∨t=1:=by omega
   have c6:=s.cx;clear Q f6;rcases H with rfl|rfl
   ·go_wp2_with(first
     | (go_at_call 118;(with_reducible refine(zca s rf hrf hf).mono ?_);rintro e w7 ⟨q,rfl,K,T,k7,V7,m,L,u7⟩;have C:=N.trans L;have u5:=L.gv _ u5)
     | (go_at_call 38;first
         | ((with_reducible refine(zbp q K _).mono ?_);rintro e w8 ⟨A1,rfl,I,f,a⟩;have l:=m.below a m.base;have E:=C.trans (.low a))
         | ((with_reducible refine(zbp r o _).mono ?_);rintro e w9 ⟨A2,rfl,Z,p,c⟩;have u:=l.below c l.base;have G:=E.trans (.low c)))
     | (go_at_call 62;refine Hid.out ?_))
    unfold Hid;refine(zbE u (zgO q r) _ (zjy f p) (zbQ (by decide) (by omega) (by omega)) (by first|omega|(simp;omega))).mono ?_;rintro e Y ⟨rfl,X,P,h,d⟩;dsimp only;go_wp2;go_ret;exact⟨2,⟨rfl,by omega⟩,pcp (A:=[setL r (x:Int)]++[zgO q r]) (.app (.ins _ U) (.ins _ (zgP K o))) (by simp) (Nat.le_refl _) h (G.trans d) (.loadN o K (by omega) (by omega) hh (d.gv _ u5) T (d.gv _ u7)) (by simp)⟩
   ·go_wp2_with(first
     | (go_at_call 38;refine Hid.out ?_))
    have J:=c6;go_region_held3 (fun W=>W.cell? ⟨b,0,none⟩=some (.pointer (some ⟨px,0,none⟩)))
     (first
       | exact J
       | exact O
       | exact H3
       | exact H4
       | exact H5)
     (first
       | (go_at_call 38;first
           | ((with_reducible refine(zbp r o _).mono ?_);rintro e w7 ⟨A1,rfl,I,f,a⟩;have m:=s.drew.below a s.drew.base;have O:=m.cx;have C:=(N.trans (Fr.low (Below.refl _ _).drew)).trans (.low a))
           | ((with_reducible refine(zbp q (by omega) _).mono ?_);rintro e w9 ⟨A2,rfl,Z,p,c⟩;have u:=l.below c l.base;have H4:=u.cx;have G:=E.trans (.low c)))
       | (go_at_call 41;(with_reducible refine(zax m 8 (by omega)).mono ?_);rintro e w8 ⟨q,rfl,K,k8,V8,l,f8⟩;have E:=C.trans f8;have H3:=l.cx;have u5:=f8.gv _ u5)
       | (go_at_call 62;(with_reducible refine(zbE u (zdL r q) _ (zgQ f p) (zbQ (by decide) (by omega) (by omega)) (by first|omega|(simp;omega))).mono ?_);rintro e Y ⟨rfl,X,P,h,d⟩;have H5:=h.cx))
    go_wp2;go_ret;exact⟨2,⟨rfl,by omega⟩,pcp (A:=[setL r (x:Int)]++[zdL r q]) (.app (.ins _ U) (.ins _ (zf8 o (by omega)))) (by simp) (Nat.le_refl _) h (G.trans d) (.storeN o (by omega) (by omega) (by omega) hh (d.gv _ u5)) (by simp)⟩
end
end Go.Proofs.YtfpgjkbjbbgciaaGreatDoor
