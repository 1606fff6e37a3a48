import Derived.Test.YtfpgjkbjbbgciaaGreatDoorMk06
import Derived.Test.YtfpgjkbjbbgciaaGreatDoorMk08
set_option maxRecDepth 100000
set_option maxHeartbeats 8000000
namespace Go.Proofs.YtfpgjkbjbbgciaaGreatDoor
section
open Go.RowKit Sp Go.WideMaps Go.Maps
theorem Tryz.under81:Tryz.prog.underlying 81=some (.map 9 3):=by kernel_rfl
theorem lawS:Keyed Tryz.prog 9:=string_keyed Tryz.underlying9
theorem zsR(w:World):(zeroValue 3).run Tryz.prog w=.ok (.int .i64 0) w:=by kernel_rfl
theorem keyS(x:ByteArray)(h:x.size≤maxLen):keyOf Tryz.prog 9 (.string x)=some (.string x.data.toList):=keyOf_string_mk Tryz.underlying9 h
def zb6:List (ByteArray × Nat)→ByteArray→Option Nat
 | [],_=>none
 | p :: r,x=>if eqW p.1 x=true then some p.2 else zb6 r x
abbrev zbx(E:List (ByteArray × Nat)):List ByteArray:=E.map Prod.fst
theorem zqv(E:List (ByteArray × Nat))(x:ByteArray)(h:(zbx E).any (fun y=>eqW y x)=false):zb6 E x=none:=by
 induction E with
 | nil=>rfl
 | cons p r ih =>
  simp only [zbx,List.map_cons,List.any_cons,Bool.or_eq_false_iff] at h;unfold zb6;rw [if_neg (by rw [h.1];simp)];exact ih h.2
theorem zlA(E G:List (ByteArray × Nat))(x:ByteArray):zb6 (E++G) x=match zb6 E x with|some p=>some p|none=>zb6 G x:=by
 induction E with
 | nil=>rfl
 | cons p r ih =>
  show(if eqW p.1 x=true then some p.2 else zb6 (r++G) x)=match (if eqW p.1 x=true then some p.2 else zb6 r x) with|some p=>some p|none=>zb6 G x
  split
  ·rfl
  ·exact ih
theorem zqw(E:List (ByteArray × Nat))(x:ByteArray)(h:(zbx E).any (fun y=>eqW y x)=true):∃ p,zb6 E x=some p:=by
 induction E with
 | nil=>simp at h
 | cons p r ih =>
  simp only [zbx,List.map_cons,List.any_cons,Bool.or_eq_true] at h;unfold zb6;by_cases e:eqW p.1 x=true
  ·exact⟨_,if_pos e⟩
  ·rw [if_neg e];rcases h with h|h
   ·exact absurd h e
   ·exact ih h
def MapIs(w:World)(b:Nat)(E:List (ByteArray × Nat)):Prop:=∃ D:DataW Unit,w.ownsMap Tryz.prog 9 (plainElem Tryz.prog 3) b E.length D∧IsMap D∧(∀ x:ByteArray,Maps.has D (.string x.data.toList)=(zbx E).any (fun y=>eqW y x)) ∧
 (∀(x:ByteArray) (p:Nat) (z:DataW Unit),zb6 E x=some p→D.atKey (.string x.data.toList) z=.lit (.int .i64 (p:Int)))∧E.Pairwise (fun a b=>eqW a.1 b.1=false)
theorem MapIs.kept{w w':World}{b:Nat}{E:List (ByteArray × Nat)}{row:Option Nat}(h:MapIs w b E)(hg:w.grownBy w' row)(hne:some b≠row):MapIs w' b E:=by
 obtain⟨D,a,c⟩:=h;exact⟨D,a.kept hg hne,c⟩
theorem MapIs.alloc{w:World}{b:Nat}{E:List (ByteArray × Nat)}(h:MapIs w b E)(o:Obj):MapIs (w.alloc o) b E:=h.kept (World.grownBy_alloc w o none) (by simp)
theorem MapIs.lt{w:World}{b:Nat}{E:List (ByteArray × Nat)}(h:MapIs w b E):b<w.heap.size:=by
 obtain⟨D,a,_⟩:=h;exact a.lt
theorem MapIs.below{w w':World}{b:Nat}{E:List (ByteArray × Nat)}{B:Nat}(h:MapIs w b E)(hb:Below B w w')(hB:b<B):MapIs w' b E:=by
 obtain⟨D,⟨c,a,e,r⟩,d⟩:=h;exact⟨D,⟨c,a,(hb.block b hB).trans e,r⟩,d⟩
theorem MapIs.made(w:World):MapIs (w.alloc (.map #[] 0)) w.heap.size []:=⟨.map [],World.ownsMap_made _ _ _ _,⟨[],rfl⟩,fun _x=>rfl,fun _x _p _z h=>(nomatch h),List.Pairwise.nil⟩
theorem zyz{w:World}{b base:Nat}{E:List (ByteArray × Nat)}{e:TypeId}{size n:Nat}{v:Value}{xs:List Value}(h:MapIs w b E)(hr:w.ownsRow base e size v n xs):some b≠v.ownBlock:=by
 obtain⟨D,⟨es,clock,hh,_⟩,_⟩:=h;intro a;rcases hr.2 with ⟨c,_⟩|⟨g,cap,cur,c,_,d,_⟩
 ·subst c;simp [Value.ownBlock] at a
 ·subst c;simp [Value.ownBlock] at a;subst a;rw [hh] at d;cases d
theorem zdU(a b:ByteArray):eqW a b=true↔a.data.toList=b.data.toList:=by
 unfold eqW;rw [ByteArray.toList_eq,ByteArray.toList_eq,beq_iff_eq]
theorem zy0{D:DataW Unit}{names:List ByteArray}(hD:IsMap D)(h:∀ x:ByteArray,Maps.has D (.string x.data.toList)=names.any (fun y=>eqW y x))(nm:ByteArray)(d:DataW Unit):∀ x:ByteArray,Maps.has (D.put (.string nm.data.toList) d) (.string x.data.toList)=(names++[nm]).any (fun y=>eqW y x):=by
 intro x;rw [List.any_append];by_cases e:x.data.toList=nm.data.toList
 ·rw [e,has_put_same hD (k:=.string nm.data.toList) trivial d];have:eqW nm x=true:=(zdU nm x).2 e.symm;simp [this]
 ·have a:(Lit.string x.data.toList)≠.string nm.data.toList:=by intro b;apply e;simpa using b
  rw [has_put_other a d,h x];have:eqW nm x=false:=by
   cases hq:eqW nm x with
   | false=>rfl
   | true=>exact absurd ((zdU nm x).1 hq).symm e
  simp [this]
theorem zzW{D:DataW Unit}{E:List (ByteArray × Nat)}(hD:IsMap D)(h:∀(x:ByteArray) (p:Nat) (z:DataW Unit),zb6 E x=some p→D.atKey (.string x.data.toList) z=.lit (.int .i64 (p:Int)))(nm:ByteArray)(hno:(zbx E).any (fun y=>eqW y nm)=false)(place:Nat):
  ∀(x:ByteArray) (p:Nat) (z:DataW Unit),zb6 (E++[(nm,place)]) x=some p→(D.put (.string nm.data.toList) (.lit (.int .i64 (place:Int)))).atKey (.string x.data.toList) z=.lit (.int .i64 (p:Int)):=by
 intro x p z a;rw [zlA] at a;by_cases e:x.data.toList=nm.data.toList
 ·have f:x=nm:=by
   have:x.data=nm.data:=by rw [←Array.toArray_toList (xs:=x.data),e,Array.toArray_toList]
   cases x;cases nm;simp at this;rw [this]
  subst f;rw [zqv E x hno] at a;have:eqW x x=true:=(zdU x x).2 rfl;simp only [zb6,this,if_true,Option.some.injEq] at a;subst a;exact atKey_put_same hD (k:=.string x.data.toList) trivial _ z
 ·have b:(Lit.string x.data.toList)≠.string nm.data.toList:=by intro d;apply e;simpa using d
  rw [atKey_put_other b];have c:eqW nm x=false:=by
   cases c:eqW nm x with
   | false=>rfl
   | true=>exact absurd ((zdU nm x).1 c).symm e
  cases hE:zb6 E x with
  | some q=>rw [hE] at a;simp only [Option.some.injEq] at a;subst a;exact h x q z hE
  | none=>rw [hE] at a;simp [zb6,c] at a
theorem zvU{E:List (ByteArray × Nat)}(h:E.Pairwise (fun a b=>eqW a.1 b.1=false))(nm:ByteArray)(hno:(zbx E).any (fun y=>eqW y nm)=false)(place:Nat):(E++[(nm,place)]).Pairwise (fun a b=>eqW a.1 b.1=false):=by
 refine List.pairwise_append.2 ⟨h,by simp,fun a ha b hb=>?_⟩;simp at hb;subst hb;rw [List.any_eq_false] at hno;have:=hno a.1 (List.mem_map_of_mem ha);simpa using this
theorem zlB(w:World)(b:Nat)(E:List (ByteArray × Nat))(hM:MapIs w b E)(sort line:Int)(word:ByteArray)(x y z n:Int)(nm:ByteArray)(place:Nat)(hp:place≤4096)(hn:E.length≤4096)(hnm:nm.size≤1048576)(hno:(zbx E).any (fun y=>eqW y nm)=false):
  Calls Tryz.prog 131 #[.map (some b),stm sort line word x y z n nm,.int .i64 (place:Int)] w fun e w'=>e=.returned (.tuple #[])∧MapIs w' b (E++[(nm,place)])∧w.grownBy w' (some b):=by
 obtain⟨D,a,i,f,h,j⟩:=hM;have k:=keyS nm (by unfold maxLen;omega);have l:=f nm;rw [hno] at l;have hlt:=a.lt;go_enter Tryz.func131,Tryz.ntmps131;go_wp2_with(first
  | (at_lookup;refine wpList_lookup_own_ok_int _ rfl _ _ 81 rfl 9 3 .i64 lawS Tryz.under81 Tryz.underlying3 (zsR _) b E.length D rfl (a.alloc _) _ _ rfl k ?_;intro c hat hwc)
  | (at_mapUpdate;refine wpList_mapUpdate_own _ rfl _ _ _ 81 rfl 9 3 lawS Tryz.under81 _ b E.length D rfl (a.alloc _) (by unfold maxLen;omega) _ _ _ rfl rfl k _ [] (plainElem_int Tryz.underlying3 (WalkArith.wf_i64 (by omega))) ?_;intro w1 g d))
 go_end0
 refine⟨rfl,⟨_,by simpa using g,i.put _ _,by simpa using zy0 i f nm _,zzW i h nm hno place,zvU j nm hno place⟩,(World.grownBy_alloc w _ _).trans d⟩
theorem zlC(w:World)(b:Nat)(E:List (ByteArray × Nat))(hM:MapIs w b E)(sort line:Int)(word:ByteArray)(x y z n:Int)(nm:ByteArray)(place:Int)(hnm:nm.size≤1048576)(hno:(zbx E).any (fun y=>eqW y nm)=true):
  Calls Tryz.prog 131 #[.map (some b),stm sort line word x y z n nm,.int .i64 place] w fun e w'=>e=zak 3 line∧Below w.heap.size w w':=by
 obtain⟨D,a,hD,d,hat0,hpw⟩:=hM;have h:=keyS nm (by unfold maxLen;omega);have g:=d nm;rw [hno] at g;have hlt:=a.lt;go_enter Tryz.func131,Tryz.ntmps131;go_wp2_with(first
  | (at_lookup;refine wpList_lookup_own_ok_int _ rfl _ _ 81 rfl 9 3 .i64 lawS Tryz.under81 Tryz.underlying3 (zsR _) b E.length D rfl (a.alloc _) _ _ rfl h ?_;intro c hat hwc)
  | (go_at_call 79;refine(zay _ _ _).mono ?_;rintro e wx ⟨rfl,f⟩;subst f))
 exact⟨rfl,rfl,(Below.refl _ _).alloc (Nat.le_refl _) _⟩
theorem zjM(w:World)(b:Nat)(E:List (ByteArray × Nat))(hM:MapIs w b E)(sort line:Int)(word:ByteArray)(x y z n:Int)(nm:ByteArray)(hnm:nm.size≤1048576)(hno:(zbx E).any (fun y=>eqW y nm)=true):
  Calls Tryz.prog 103 #[.map (some b),stm sort line word x y z n nm] w fun e w'=>e=.returned (.tuple #[])∧Below w.heap.size w w':=by
 obtain⟨D,a,hD,d,hat0,hpw⟩:=hM;have g:=keyS nm (by unfold maxLen;omega);have f:=d nm;rw [hno] at f;have hlt:=a.lt;go_enter Tryz.func103,Tryz.ntmps103;go_wp2_with(first
  | (at_lookup;refine wpList_lookup_own_ok_int _ rfl _ _ 81 rfl 9 3 .i64 lawS Tryz.under81 Tryz.underlying3 (zsR _) b E.length D rfl (a.alloc _) _ _ rfl g ?_;intro c hat hwc))
 go_end0
 exact⟨rfl,(Below.refl _ _).alloc (Nat.le_refl _) _⟩
theorem zlD(w:World)(b:Nat)(E:List (ByteArray × Nat))(hM:MapIs w b E)(sort line:Int)(word:ByteArray)(x y z n:Int)(nm:ByteArray)(hnm:nm.size≤1048576)(hno:(zbx E).any (fun y=>eqW y nm)=false):
  Calls Tryz.prog 103 #[.map (some b),stm sort line word x y z n nm] w fun e w'=>e=zak 4 line∧Below w.heap.size w w':=by
 obtain⟨D,a,hD,d,hat0,hpw⟩:=hM;have h:=keyS nm (by unfold maxLen;omega);have g:=d nm;rw [hno] at g;have hlt:=a.lt;go_enter Tryz.func103,Tryz.ntmps103;go_wp2_with(first
  | (at_lookup;refine wpList_lookup_own_ok_int _ rfl _ _ 81 rfl 9 3 .i64 lawS Tryz.under81 Tryz.underlying3 (zsR _) b E.length D rfl (a.alloc _) _ _ rfl h ?_;intro c hat hwc)
  | (go_at_call 79;refine(zay _ _ _).mono ?_;rintro e wx ⟨rfl,f⟩;subst f))
 exact⟨rfl,rfl,(Below.refl _ _).alloc (Nat.le_refl _) _⟩
end
section
open Go.RowKit Sp
def zkX(c n:Int):Int:=(if c<0 then -(c+1) else c)%n
theorem zpM(c n:Int)(w:World)(hn:0<n)(hc:i64 c):Calls Tryz.prog 37 #[.int .i64 c,.int .i64 n] w fun e w'=>e=.returned (.int .i64 (zkX c n))∧w'=w:=by
 obtain⟨hc1,hc2⟩:=hc;by_cases h:c<0
 ·have e1:wrap64 (c+1)=c+1:=(by unfold wrap64;omega)
  have e2:wrap64 (-(c+1))=-(c+1):=(by unfold wrap64;omega)
  have e3:(-(c+1)).tmod n=-(c+1)%n:=Int.tmod_eq_emod_of_nonneg (by omega);have a:zkX c n=-(c+1)%n:=by unfold zkX;rw [if_pos h]
  rw [a];go_enter Tryz.func37,Tryz.ntmps37;go_wp2;go_ret;exact⟨rfl,rfl⟩
 ·have a:zkX c n=c%n:=by unfold zkX;rw [if_neg h]
  rw [a];go_enter Tryz.func37,Tryz.ntmps37;go_wp2;go_ret;exact⟨rfl,rfl⟩
theorem zuI(n:Nat)(w:World):(convert 157 9 (.slice (some ⟨w.heap.size,0,none⟩) 1 1)).run Tryz.prog (w.alloc (.cells #[.int .u8 (48+(n:Int)%10)] 5))=.ok (.string (ba [UInt8.ofNat (48+n%10)])) (w.alloc (.cells #[.int .u8 (48+(n:Int)%10)] 5)):=by
 refine run_convert_bytes_back (P:=Tryz.prog) _ 157 9 5 ⟨w.heap.size,0,none⟩ 1 [UInt8.ofNat (48+n%10)] (by kernel_rfl) (by kernel_rfl) (by kernel_rfl) (fun j hj=>?_);have:j=0:=by simp at hj;omega
 subst this;show(w.alloc _).cell? ⟨w.heap.size,0+0,none⟩=_;rw [World.cell?_alloc_new (w:=w) #[.int .u8 (48+(n:Int)%10)] 5 0];have:((UInt8.ofNat (48+n%10)).toNat:Int)=48+(n:Int)%10:=by
  rw [UInt8.toNat_ofNat',Nat.mod_eq_of_lt (by omega)];omega
 simp only [List.getElem_cons_zero,this];rfl
theorem zeg(a b:List UInt8):ba a++ba b=ba (a++b):=by
 apply ByteArray.ext;simp [ba,ByteArray.data_append]
theorem zxx(k n:Nat)(h:n<10 ^ (k+1)):(decL n).length≤k+1:=by
 induction k generalizing n with
 | zero=>rw [zbY n (by simpa using h)];simp
 | succ k ih =>
  by_cases a:n<10
  ·rw [zbY n a];simp
  ·have:=ih (n/10) (by rw [Nat.pow_succ] at h;omega);rw [zeN n a,List.length_append,List.length_singleton];omega
theorem zeO(n:Nat)(h:n≤9223372036854775808):(ba (decL n)).size≤20:=zxx 19 n (by omega)
theorem zmM(n:Nat)(h:n≤9223372036854775808)(w:World):Calls Tryz.prog 63 #[.int .i64 (-(n:Int))] w fun e w'=>e=.returned (.string (ba (decL n)))∧Below w.heap.size w w':=by
 induction n using Nat.strongRecOn generalizing w with
 | ind n ih =>
  have b:=zuI n w;have a:Below w.heap.size w (w.alloc (.cells #[.int .u8 (48+(n:Int)%10)] 5)):=(Below.refl _ _).alloc (Nat.le_refl _) _;by_cases f:n<10
  ·rw [zbY n f];rw [show 48+n%10=48+n by omega] at b;generalize ba [UInt8.ofNat (48+n)]=X at b ⊢;go_enter Tryz.func63,Tryz.ntmps63;go_wp2_with(first|(rw [b];go_upon))
   go_ret;exact⟨rfl,a⟩
  ·have c:=ih (n/10) (by omega) (by omega) (w.alloc (.cells #[.int .u8 (48+(n:Int)%10)] 5));rw [show((n/10:Nat):Int)=(n:Int)/10 by omega] at c;rw [zeN n f,←zeg];have g:=zeO (n/10) (by omega);have i:(ba [UInt8.ofNat (48+n%10)]).size≤1:=Nat.le_refl _;generalize ba [UInt8.ofNat (48+n%10)]=X at b i ⊢;generalize ba (decL (n/10))=Y at c g ⊢;have z3:¬9223372036854775807<Y.size+X.size:=by omega
   go_enter Tryz.func63,Tryz.ntmps63;go_wp2_with(first|(rw [b];go_upon)|(go_at_call 63;refine c.mono ?_;rintro e w2 ⟨rfl,d⟩))
   go_ret;exact⟨rfl,a.trans (d.mono a.size)⟩
theorem zgI(n:Int)(h:i64 n)(w:World):Calls Tryz.prog 36 #[.int .i64 n] w fun e w'=>e=.returned (.string (ba (digL n)))∧Below w.heap.size w w':=by
 obtain⟨h1,h2⟩:=h;have d:=zeO n.natAbs (by omega);by_cases c:n<0
 ·have b:=zmM n.natAbs (by omega) w;rw [show -((n.natAbs:Nat):Int)=n by omega] at b;rw [show digL n=[45]++decL n.natAbs by unfold digL;rw [if_pos c];rfl,←zeg];generalize ba (decL n.natAbs)=Y at b d ⊢;have z3:¬9223372036854775807<1+Y.size:=by omega
  go_enter Tryz.func36,Tryz.ntmps36;go_wp2_with(go_at_call 63;refine b.mono ?_;rintro e f ⟨rfl,a⟩)
  go_ret;exact⟨rfl,a⟩
 ·have b:=zmM n.natAbs (by omega) w;rw [show -((n.natAbs:Nat):Int)=-n by omega] at b;rw [show digL n=decL n.natAbs by unfold digL;rw [if_neg c]];generalize ba (decL n.natAbs)=Y at b d ⊢;go_enter Tryz.func36,Tryz.ntmps36;go_wp2_with(go_at_call 63;refine b.mono ?_;rintro e f ⟨rfl,a⟩)
  go_ret;exact⟨rfl,a⟩
def regY(r:Nat):ByteArray:=ba [114,UInt8.ofNat (48+r)]
theorem zxy(r:Nat)(h:r<8)(w:World):Calls Tryz.prog 38 #[.int .i64 (r:Int)] w fun e w'=>e=.returned (.string (regY r))∧Below w.heap.size w w':=by
 have b:=zgI (r:Int) ⟨by omega,by omega⟩ w;rw [show digL (r:Int)=[UInt8.ofNat (48+r)] by unfold digL;rw [if_neg (by omega),Int.natAbs_natCast,zbY r (by omega)]] at b;rw [show regY r=ba [114]++ba [UInt8.ofNat (48+r)] from(zeg [114] [UInt8.ofNat (48+r)]).symm];have z:(ba [UInt8.ofNat (48+r)]).size=1:=rfl;generalize ba [UInt8.ofNat (48+r)]=Y at b z ⊢;have z3:¬9223372036854775807<1+Y.size:=by omega
 go_enter Tryz.func38,Tryz.ntmps38;go_wp2_with(go_at_call 36;refine b.mono ?_;rintro e w2 ⟨rfl,a⟩)
 go_ret;exact⟨rfl,a⟩
end
namespace Sp
theorem zgi(L:List Said)(q j:Nat)(c:Int × Int)(h:∀ k,j≤k→k<L.length→badB L q k=false):pass L q j c=c:=by
 by_cases a:j<L.length
 ·rw [zc3 L q j c a (h j (Nat.le_refl _) a)];exact zgi L q (j+1) c (fun k h1 h2=>h k (by omega) h2)
 ·exact zfH L q j c a
termination_by L.length-j
theorem zmN(A:List ByteArray)(i:Nat)(h:∀ x∈A,(say x).ok=true):zbS A i=zb5 (A.map say) 0:=by
 by_cases a:i<A.length
 ·rw [zfJ A i a (h _ (List.getElem_mem _))];exact zmN A (i+1) h
 ·exact zij A i a
termination_by A.length-i
structure Prog(L:List Said):Prop where
 ok:∀ q∈L,q.ok=true
 start:∃ q r,L=q :: r∧q.kind=102
 twice:∀ k,k<L.length→zeX L k=false
 missing:∀ k,k<L.length→zch L k=false
 endless:∀ k,k<L.length→zdv L k=false
theorem zuN(s:ByteArray)(P:Prog ((lines s).map say)):zcm s=if 4000<s.size∨300<(lines s).length then(6,0) else(0,0):=by
 unfold zcm;split
 ·rfl
 ·rw [zmN _ _ (fun x hx=>P.ok _ (List.mem_map_of_mem hx))];obtain⟨q,r,hq,a⟩:=P.start;have b:0<((lines s).map say).length:=by rw [hq];simp
  have h0:((lines s).map say)[0]=q:=by simp only [hq];rfl
  rw [zii _ 0 b (by rw [h0,a];decide) (by rw [h0];exact a)];show pass _ 0 0 (pass _ 1 0 (pass _ 2 0 (0,0)))=_;rw [zgi _ 2 0 _ (fun k _ hk=>P.endless k hk),zgi _ 1 0 _ (fun k _ hk=>P.missing k hk),zgi _ 0 0 _ (fun k _ hk=>P.twice k hk)]
structure Fs where
 name:List UInt8
 body:List Said
def Fs.said(f:Fs):List Said:=⟨102,[ba [102,117,110,99],ba f.name],true⟩ :: f.body
def zaq(fs:List Fs):List Said:=fs.flatMap Fs.said
def offF(fs:List Fs)(k:Nat):Nat:=(zaq (fs.take k)).length
theorem zcy(f:Fs)(fs:List Fs):zaq (f :: fs)=f.said++zaq fs:=by simp [zaq]
theorem zuO(a b:List Fs):zaq (a++b)=zaq a++zaq b:=by simp [zaq]
def labI(x:ByteArray):List Said→Option Nat
 | []=>none
 | q :: r=>if zcO q x=true then some 0 else(labI x r).map (·+1)
def zkY(l:List Said):Prop:=∀ q∈l,¬q.kind=102
def Shut(l:List Said):Prop:=l=[]∨∃ q r,l=q :: r∧q.kind=102
theorem zjo(fs:List Fs):Shut (zaq fs):=by
 cases fs with
 | nil=>exact .inl rfl
 | cons f t=>exact .inr ⟨_,_,(by rw [zcy];rfl),rfl⟩
theorem zjp{α:Type}(A:List α)(q:α)(R:List α)(h:A.length<(A++q :: R).length):(A++q :: R)[A.length]=q:=by
 rw [List.getElem_append_right (Nat.le_refl _)];simp
theorem zpQ(A b R:List Said)(x:ByteArray)(hb:zkY b)(hR:Shut R):zbg (A++(b++R)) x A.length=match labI x b with|none=>-1|some i=>((A.length+i:Nat):Int):=by
 induction b generalizing A with
 | nil =>
  rcases hR with rfl|⟨q,r,rfl,c⟩
  ·rw [zfm _ _ _ (by simp)];rfl
  ·rw [List.nil_append];rw [zhW _ _ _ (by simp) (by rw [zjp];exact c)];rfl
 | cons q t ih =>
  have c:=hb q List.mem_cons_self;have a:A.length<(A++(q :: t++R)).length:=by simp
  have e0:(A++(q :: t++R))[A.length]=q:=zjp A q (t++R) a;cases hl:zcO q x with
  | true =>
   rw [zdh _ _ _ a (by rw [e0];exact c) (by rw [e0];exact hl)];simp [labI,hl]
  | false =>
   rw [zcq _ _ _ a (by rw [e0];exact c) (by rw [e0];exact hl)];have:=ih (A++[q]) (fun y hy=>hb y (List.mem_cons_of_mem _ hy));rw [List.length_append,List.append_assoc] at this;simp only [List.length_singleton,List.singleton_append] at this;rw [List.cons_append,this];simp only [labI,hl];cases labI x t with
   | none=>rfl
   | some i=>show((A.length+1+i:Nat):Int)=((A.length+(i+1):Nat):Int);omega
theorem zsa(A b R:List Said)(f:Said)(hf:f.kind=102)(hb:zkY b)(j:Nat)(hj:j≤b.length):zfl (A++(f :: b++R)) (A.length+j)=(A.length:Int):=by
 induction j with
 | zero =>
  have a:A.length<(A++(f :: b++R)).length:=by simp
  have:=zfE (A++(f :: b++R)) A.length a (by rw [show(A++(f :: b++R))[A.length]=f from zjp A f (b++R) a];exact hf);exact this
 | succ j ih =>
  have a:A.length+j+1<(A++(f :: b++R)).length:=by simp;omega
  have e:(A++(f :: b++R))[A.length+j+1]=b[j]'(by omega):=by
   rw [List.getElem_append_right (by omega)];simp only [show A.length+j+1-A.length=j+1 by omega,List.cons_append,List.getElem_cons_succ];rw [List.getElem_append_left (by omega)]
  rw [show A.length+(j+1)=A.length+j+1 by omega,zdB _ _ a (by rw [e];exact hb _ (List.getElem_mem _)),ih (by omega)]
theorem zx3(A b R:List Said)(e:Bool)(hb:zkY b)(hR:Shut R):zfF (A++(b++R)) A.length e=b.foldl (fun e q=>if q.kind=108 then false else if q.kind=105 then ends (q.word 0) else e) e:=by
 induction b generalizing A e with
 | nil =>
  rcases hR with rfl|⟨q,r,rfl,c⟩
  ·rw [zhX _ _ _ (by simp)];rfl
  ·rw [List.nil_append,znu _ _ _ (by simp) (by rw [zjp];exact c)];rfl
 | cons q t ih =>
  have c:=hb q List.mem_cons_self;have a:A.length<(A++(q :: t++R)).length:=by simp
  have d:(A++(q :: t++R))[A.length]=q:=zjp A q (t++R) a;rw [zeC _ _ _ a (by rw [d];exact c),d];have:=ih (A++[q]) (if q.kind=108 then false else if q.kind=105 then ends (q.word 0) else e) (fun y hy=>hb y (List.mem_cons_of_mem _ hy));rw [List.length_append,List.append_assoc] at this;simp only [List.length_singleton,List.singleton_append] at this;rw [List.cons_append,this];rfl
end Sp
end Go.Proofs.YtfpgjkbjbbgciaaGreatDoor
