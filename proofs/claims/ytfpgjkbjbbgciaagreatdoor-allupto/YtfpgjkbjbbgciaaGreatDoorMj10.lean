import Derived.Test.YtfpgjkbjbbgciaaGreatDoorMj06
import Derived.Test.YtfpgjkbjbbgciaaGreatDoorMj09
set_option maxRecDepth 100000
set_option maxHeartbeats 8000000
namespace Go.Proofs.YtfpgjkbjbbgciaaGreatDoor
section
open Go.RowKit Sp Go.WideMaps Go.Maps
theorem Tryz.under81:Tryz.prog.underlying 81=some (.map 9 3):=by kernel_rfl
theorem lawS:Keyed Tryz.prog 9:=string_keyed Tryz.underlying9
theorem zsT(w:World):(zeroValue 3).run Tryz.prog w=.ok (.int .i64 0) w:=by kernel_rfl
theorem keyS(x:ByteArray)(h:x.size≤maxLen):keyOf Tryz.prog 9 (.string x)=some (.string x.data.toList):=keyOf_string_mk Tryz.underlying9 h
def zcb:List (ByteArray × Nat)→ByteArray→Option Nat
 | [],_=>none
 | p :: r,x=>if eqW p.1 x=true then some p.2 else zcb r x
abbrev zbH(E:List (ByteArray × Nat)):List ByteArray:=E.map Prod.fst
theorem zqp(E:List (ByteArray × Nat))(x:ByteArray)(h:(zbH E).any (fun y=>eqW y x)=false):zcb E x=none:=by
 induction E with
 | nil=>rfl
 | cons p r ih =>
  simp only [zbH,List.map_cons,List.any_cons,Bool.or_eq_false_iff] at h;unfold zcb;rw [if_neg (by rw [h.1];simp)];exact ih h.2
theorem zlu(E G:List (ByteArray × Nat))(x:ByteArray):zcb (E++G) x=match zcb E x with|some p=>some p|none=>zcb G x:=by
 induction E with
 | nil=>rfl
 | cons p r ih =>
  show(if eqW p.1 x=true then some p.2 else zcb (r++G) x)=match (if eqW p.1 x=true then some p.2 else zcb r x) with|some p=>some p|none=>zcb G x
  split
  ·rfl
  ·exact ih
theorem zqq(E:List (ByteArray × Nat))(x:ByteArray)(h:(zbH E).any (fun y=>eqW y x)=true):∃ p,zcb E x=some p:=by
 induction E with
 | nil=>simp at h
 | cons p r ih =>
  simp only [zbH,List.map_cons,List.any_cons,Bool.or_eq_true] at h;unfold zcb;by_cases e:eqW p.1 x=true
  ·exact⟨_,if_pos e⟩
  ·rw [if_neg e];rcases h with h|h
   ·exact absurd h e
   ·exact ih h
def MapIs(w:World)(b:Nat)(E:List (ByteArray × Nat)):Prop:=∃ D:DataW Unit,w.ownsMap Tryz.prog 9 (plainElem Tryz.prog 3) b E.length D∧IsMap D∧(∀ x:ByteArray,Maps.has D (.string x.data.toList)=(zbH E).any (fun y=>eqW y x)) ∧
 (∀(x:ByteArray) (p:Nat) (z:DataW Unit),zcb E x=some p→D.atKey (.string x.data.toList) z=.lit (.int .i64 (p:Int)))∧E.Pairwise (fun a b=>eqW a.1 b.1=false)
theorem MapIs.kept{w w':World}{b:Nat}{E:List (ByteArray × Nat)}{row:Option Nat}(h:MapIs w b E)(hg:w.grownBy w' row)(hne:some b≠row):MapIs w' b E:=by
 obtain⟨D,a,c⟩:=h;exact⟨D,a.kept hg hne,c⟩
theorem MapIs.alloc{w:World}{b:Nat}{E:List (ByteArray × Nat)}(h:MapIs w b E)(o:Obj):MapIs (w.alloc o) b E:=h.kept (World.grownBy_alloc w o none) (by simp)
theorem MapIs.lt{w:World}{b:Nat}{E:List (ByteArray × Nat)}(h:MapIs w b E):b<w.heap.size:=by
 obtain⟨D,a,_⟩:=h;exact a.lt
theorem MapIs.below{w w':World}{b:Nat}{E:List (ByteArray × Nat)}{B:Nat}(h:MapIs w b E)(hb:Below B w w')(hB:b<B):MapIs w' b E:=by
 obtain⟨D,⟨e,a,c,r⟩,d⟩:=h;exact⟨D,⟨e,a,(hb.block b hB).trans c,r⟩,d⟩
theorem MapIs.made(w:World):MapIs (w.alloc (.map #[] 0)) w.heap.size []:=⟨.map [],World.ownsMap_made _ _ _ _,⟨[],rfl⟩,fun _x=>rfl,fun _x _p _z h=>(nomatch h),List.Pairwise.nil⟩
theorem zxN{w:World}{b base:Nat}{E:List (ByteArray × Nat)}{e:TypeId}{size n:Nat}{v:Value}{xs:List Value}(h:MapIs w b E)(hr:w.ownsRow base e size v n xs):some b≠v.ownBlock:=by
 obtain⟨D,⟨es,clock,hh,_⟩,_⟩:=h;intro a;rcases hr.2 with ⟨c,_⟩|⟨g,cap,cur,c,_,d,_⟩
 ·subst c;simp [Value.ownBlock] at a
 ·subst c;simp [Value.ownBlock] at a;subst a;rw [hh] at d;cases d
theorem zex(a b:ByteArray):eqW a b=true↔a.data.toList=b.data.toList:=by
 unfold eqW;rw [ByteArray.toList_eq,ByteArray.toList_eq,beq_iff_eq]
theorem zxO{D:DataW Unit}{names:List ByteArray}(hD:IsMap D)(h:∀ x:ByteArray,Maps.has D (.string x.data.toList)=names.any (fun y=>eqW y x))(nm:ByteArray)(d:DataW Unit):∀ x:ByteArray,Maps.has (D.put (.string nm.data.toList) d) (.string x.data.toList)=(names++[nm]).any (fun y=>eqW y x):=by
 intro x;rw [List.any_append];by_cases e:x.data.toList=nm.data.toList
 ·rw [e,has_put_same hD (k:=.string nm.data.toList) trivial d];have:eqW nm x=true:=(zex nm x).2 e.symm;simp [this]
 ·have a:(Lit.string x.data.toList)≠.string nm.data.toList:=by intro b;apply e;simpa using b
  rw [has_put_other a d,h x];have:eqW nm x=false:=by
   cases hq:eqW nm x with
   | false=>rfl
   | true=>exact absurd ((zex nm x).1 hq).symm e
  simp [this]
theorem zzl{D:DataW Unit}{E:List (ByteArray × Nat)}(hD:IsMap D)(h:∀(x:ByteArray) (p:Nat) (z:DataW Unit),zcb E x=some p→D.atKey (.string x.data.toList) z=.lit (.int .i64 (p:Int)))(nm:ByteArray)(hno:(zbH E).any (fun y=>eqW y nm)=false)(place:Nat):
  ∀(x:ByteArray) (p:Nat) (z:DataW Unit),zcb (E++[(nm,place)]) x=some p→(D.put (.string nm.data.toList) (.lit (.int .i64 (place:Int)))).atKey (.string x.data.toList) z=.lit (.int .i64 (p:Int)):=by
 intro x p z a;rw [zlu] at a;by_cases e:x.data.toList=nm.data.toList
 ·have f:x=nm:=by
   have:x.data=nm.data:=by rw [←Array.toArray_toList (xs:=x.data),e,Array.toArray_toList]
   cases x;cases nm;simp at this;rw [this]
  subst f;rw [zqp E x hno] at a;have:eqW x x=true:=(zex x x).2 rfl;simp only [zcb,this,if_true,Option.some.injEq] at a;subst a;exact atKey_put_same hD (k:=.string x.data.toList) trivial _ z
 ·have c:(Lit.string x.data.toList)≠.string nm.data.toList:=by intro d;apply e;simpa using d
  rw [atKey_put_other c];have b:eqW nm x=false:=by
   cases b:eqW nm x with
   | false=>rfl
   | true=>exact absurd ((zex nm x).1 b).symm e
  cases hE:zcb E x with
  | some q=>rw [hE] at a;simp only [Option.some.injEq] at a;subst a;exact h x q z hE
  | none=>rw [hE] at a;simp [zcb,b] at a
theorem zvJ{E:List (ByteArray × Nat)}(h:E.Pairwise (fun a b=>eqW a.1 b.1=false))(nm:ByteArray)(hno:(zbH E).any (fun y=>eqW y nm)=false)(place:Nat):(E++[(nm,place)]).Pairwise (fun a b=>eqW a.1 b.1=false):=by
 refine List.pairwise_append.2 ⟨h,by simp,fun a ha b hb=>?_⟩;simp at hb;subst hb;rw [List.any_eq_false] at hno;have:=hno a.1 (List.mem_map_of_mem ha);simpa using this
theorem zlv(w:World)(b:Nat)(E:List (ByteArray × Nat))(hM:MapIs w b E)(sort line:Int)(word:ByteArray)(x y z n:Int)(nm:ByteArray)(place:Nat)(hp:place≤4096)(hn:E.length≤4096)(hnm:nm.size≤1048576)(hno:(zbH E).any (fun y=>eqW y nm)=false):
  qC 131 #[.map (some b),stm sort line word x y z n nm,.int .i64 (place:Int)] w fun e w'=>e=.returned (.tuple #[])∧MapIs w' b (E++[(nm,place)])∧w.grownBy w' (some b):=by
 obtain⟨D,a,j,f,h,i⟩:=hM;have k:=keyS nm (by unfold maxLen;omega);have l:=f nm;rw [hno] at l;have hlt:=a.lt;go_enter Tryz.func131,Tryz.ntmps131;go_wp2_with(first
  | (at_lookup;refine wpList_lookup_own_ok_int _ rfl _ _ 81 rfl 9 3 .i64 lawS Tryz.under81 Tryz.underlying3 (zsT _) b E.length D rfl (a.alloc _) _ _ rfl k ?_;intro c hat hwc)
  | (at_mapUpdate;refine wpList_mapUpdate_own _ rfl _ _ _ 81 rfl 9 3 lawS Tryz.under81 _ b E.length D rfl (a.alloc _) (by unfold maxLen;omega) _ _ _ rfl rfl k _ [] (plainElem_int Tryz.underlying3 (WalkArith.wf_i64 (by omega))) ?_;intro w1 g d))
 go_end0
 refine⟨rfl,⟨_,by simpa using g,j.put _ _,by simpa using zxO j f nm _,zzl j h nm hno place,zvJ i nm hno place⟩,(World.grownBy_alloc w _ _).trans d⟩
theorem zlw(w:World)(b:Nat)(E:List (ByteArray × Nat))(hM:MapIs w b E)(sort line:Int)(word:ByteArray)(x y z n:Int)(nm:ByteArray)(place:Int)(hnm:nm.size≤1048576)(hno:(zbH E).any (fun y=>eqW y nm)=true):
  qC 131 #[.map (some b),stm sort line word x y z n nm,.int .i64 place] w fun e w'=>e=zak 3 line∧qB w w':=by
 obtain⟨D,a,hD,d,hat0,hpw⟩:=hM;have g:=keyS nm (by unfold maxLen;omega);have h:=d nm;rw [hno] at h;have hlt:=a.lt;go_enter Tryz.func131,Tryz.ntmps131;go_wp2_with(first
  | (at_lookup;refine wpList_lookup_own_ok_int _ rfl _ _ 81 rfl 9 3 .i64 lawS Tryz.under81 Tryz.underlying3 (zsT _) b E.length D rfl (a.alloc _) _ _ rfl g ?_;intro c hat hwc)
  | (go_at_call 79;refine(za1 _ _ _).mono ?_;rintro e wx ⟨rfl,f⟩;subst f))
 exact⟨rfl,rfl,(Below.refl _ _).alloc (Nat.le_refl _) _⟩
theorem zj5(w:World)(b:Nat)(E:List (ByteArray × Nat))(hM:MapIs w b E)(sort line:Int)(word:ByteArray)(x y z n:Int)(nm:ByteArray)(hnm:nm.size≤1048576)(hno:(zbH E).any (fun y=>eqW y nm)=true):
  qC 103 #[.map (some b),stm sort line word x y z n nm] w (qR w (.tuple #[])):=by
 obtain⟨D,a,hD,d,hat0,hpw⟩:=hM;have f:=keyS nm (by unfold maxLen;omega);have e:=d nm;rw [hno] at e;have hlt:=a.lt;go_enter Tryz.func103,Tryz.ntmps103;go_wp2_with(first
  | (at_lookup;refine wpList_lookup_own_ok_int _ rfl _ _ 81 rfl 9 3 .i64 lawS Tryz.under81 Tryz.underlying3 (zsT _) b E.length D rfl (a.alloc _) _ _ rfl f ?_;intro c hat hwc))
 go_end0
 exact⟨rfl,(Below.refl _ _).alloc (Nat.le_refl _) _⟩
theorem zlx(w:World)(b:Nat)(E:List (ByteArray × Nat))(hM:MapIs w b E)(sort line:Int)(word:ByteArray)(x y z n:Int)(nm:ByteArray)(hnm:nm.size≤1048576)(hno:(zbH E).any (fun y=>eqW y nm)=false):
  qC 103 #[.map (some b),stm sort line word x y z n nm] w fun e w'=>e=zak 4 line∧qB w w':=by
 obtain⟨D,a,hD,d,hat0,hpw⟩:=hM;have g:=keyS nm (by unfold maxLen;omega);have h:=d nm;rw [hno] at h;have hlt:=a.lt;go_enter Tryz.func103,Tryz.ntmps103;go_wp2_with(first
  | (at_lookup;refine wpList_lookup_own_ok_int _ rfl _ _ 81 rfl 9 3 .i64 lawS Tryz.under81 Tryz.underlying3 (zsT _) b E.length D rfl (a.alloc _) _ _ rfl g ?_;intro c hat hwc)
  | (go_at_call 79;refine(za1 _ _ _).mono ?_;rintro e wx ⟨rfl,f⟩;subst f))
 exact⟨rfl,rfl,(Below.refl _ _).alloc (Nat.le_refl _) _⟩
end
namespace Sp
def i64(x:Int):Prop:=-9223372036854775808≤x∧x≤9223372036854775807
theorem zeh(x:Int):i64 (w64 x):=by unfold i64 w64;omega
theorem zgq{x:Int}(h:i64 x):w64 x=x:=by unfold i64 at h;unfold w64;omega
theorem zi7(x:Int):(w64 x)%18446744073709551616=x%18446744073709551616:=by unfold w64;omega
theorem zmp{x y:Int}(h:x%18446744073709551616=y%18446744073709551616):w64 x=w64 y:=by unfold w64;omega
structure Rg where
 lo:Int
 hi:Int
def Rg.In(r:Rg)(x:Int):Prop:=r.lo≤x∧x≤r.hi
def Rg.Ok(r:Rg):Prop:=i64 r.lo∧i64 r.hi∧r.lo≤r.hi
def only(n:Int):Rg:=⟨n,n⟩
def anyR:Rg:=⟨-9223372036854775808,9223372036854775807⟩
theorem zgS(n:Int):(only n).In n:=⟨Int.le_refl _,Int.le_refl _⟩
theorem zi8{n:Int}(h:i64 n):(only n).Ok:=⟨h,h,Int.le_refl _⟩
theorem ztV{x:Int}(h:i64 x):anyR.In x:=h
theorem ztW:anyR.Ok:=by unfold Rg.Ok anyR i64;dsimp only;omega
def Rg.within(r o:Rg):Bool:=decide (o.lo≤r.lo)&&decide (r.hi≤o.hi)
def Rg.or(r o:Rg):Rg:=⟨min r.lo o.lo,max r.hi o.hi⟩
theorem zkH{r:Rg}{x:Int}(h:r.In x)(o:Rg):(r.or o).In x:=by unfold Rg.In Rg.or at *;dsimp only;omega
theorem zhA{o:Rg}{x:Int}(h:o.In x)(r:Rg):(r.or o).In x:=by unfold Rg.In Rg.or at *;dsimp only;omega
theorem zw5{r o:Rg}(h:r.Ok)(h':o.Ok):(r.or o).Ok:=by unfold Rg.Ok Rg.or i64 at *;dsimp only;omega
def Rg.width(r:Rg):Int:=(r.hi-r.lo)%18446744073709551616
theorem zpt{r:Rg}(h:r.Ok):r.width=r.hi-r.lo:=by unfold Rg.Ok i64 at h;unfold Rg.width;omega
def zfF(low:Int)(one other:Rg):Rg :=
 if 18446744073709551616≤one.width+other.width∨w64 (low+(one.width+other.width))<low then anyR else⟨low,w64 (low+(one.width+other.width))⟩
theorem ztX{low d:Int}{one other:Rg}(h1:one.Ok)(h2:other.Ok)(hl:i64 low)(h0:0≤d)(hd:d≤(one.hi-one.lo)+(other.hi-other.lo)){x:Int}(hx:x%18446744073709551616=(low+d)%18446744073709551616):(zfF low one other).In (w64 x):=by
 unfold zfF;rw [zpt h1,zpt h2];split
 ·exact ztV (zeh x)
 ·rename_i h;have a:=zeh (low+(one.hi-one.lo+(other.hi-other.lo)));have b:=zi7 (low+(one.hi-one.lo+(other.hi-other.lo)));unfold i64 at hl a;unfold Rg.In;dsimp only;generalize w64 (low+(one.hi-one.lo+(other.hi-other.lo)))=hi at h a b ⊢;generalize one.hi-one.lo+(other.hi-other.lo)=W at *;have e:hi=low+W:=by omega
  have e2:w64 x=low+d:=by rw [zmp hx];exact zgq (by unfold i64;omega)
  omega
theorem ztY{low:Int}{one other:Rg}(hl:i64 low):(zfF low one other).Ok:=by
 unfold zfF;split
 ·exact ztW
 ·rename_i h;exact⟨hl,zeh _,by dsimp only;omega⟩
def Rg.plus(r o:Rg):Rg:=zfF (w64 (r.lo+o.lo)) r o
def Rg.minus(r o:Rg):Rg:=zfF (w64 (r.lo-o.hi)) r o
theorem ztZ{r o:Rg}{x y:Int}(hr:r.Ok)(ho:o.Ok)(hx:r.In x)(hy:o.In y):(r.plus o).In (w64 (x+y)):=by
 unfold Rg.In at hx hy;refine ztX (d:=(x-r.lo)+(y-o.lo)) hr ho (zeh _) (by omega) (by omega) ?_;have:=zi7 (r.lo+o.lo);omega
theorem zw6{r o:Rg}{x y:Int}(hr:r.Ok)(ho:o.Ok)(hx:r.In x)(hy:o.In y):(r.minus o).In (w64 (x-y)):=by
 unfold Rg.In at hx hy;refine ztX (d:=(x-r.lo)+(o.hi-y)) hr ho (zeh _) (by omega) (by omega) ?_;have:=zi7 (r.lo-o.hi);omega
theorem zua(r o:Rg):(r.plus o).Ok:=ztY (zeh _)
theorem zw7(r o:Rg):(r.minus o).Ok:=ztY (zeh _)
def zbJ(a b:Int):Bool:=if a=-1 then decide (b=-9223372036854775808) else decide (¬a=0)&&decide (¬(w64 (a*b)).tdiv a=b)
theorem zcB{a b:Int}(ha:i64 a)(hb:i64 b)(h:zbJ a b=false):i64 (a*b):=by
 unfold zbJ at h;split at h
 ·rename_i e;subst e;simp at h;unfold i64 at *;omega
 ·rename_i e;simp only [Bool.and_eq_false_iff,decide_eq_false_iff_not,Decidable.not_not] at h;rcases h with h|h
  ·subst h;simp [i64]
  ·have hm:=zi7 (a*b);have i:=zeh (a*b);have d:=Int.mul_tdiv_add_tmod (w64 (a*b)) a;rw [h] at d;by_cases f:a=0
   ·subst f;simp [i64]
   ·have c:(Int.tmod (w64 (a*b)) a).natAbs<a.natAbs:=by
     rw [Int.natAbs_tmod];exact Nat.mod_lt _ (by omega)
    generalize Int.tmod (w64 (a*b)) a=t at d c;generalize a*b=p at *;have:t=0:=by unfold i64 at *;omega
    have g:w64 p=p:=by omega
    rw [←g];exact i
def Rg.times(r o:Rg):Rg :=
 if r.lo=r.hi∧o.lo=o.hi then only (w64 (r.lo*o.lo))
 else if zbJ r.lo o.lo=true∨zbJ r.lo o.hi=true∨zbJ r.hi o.lo=true∨zbJ r.hi o.hi=true then anyR
 else⟨min (min (min (r.lo*o.lo) (r.lo*o.hi)) (r.hi*o.lo)) (r.hi*o.hi),max (max (max (r.lo*o.lo) (r.lo*o.hi)) (r.hi*o.lo)) (r.hi*o.hi)⟩
theorem zfG{a b x c:Int}(h1:a≤x)(h2:x≤b):min (a*c) (b*c)≤x*c∧x*c≤max (a*c) (b*c):=by
 rcases Int.le_total 0 c with h|h
 ·have:=Int.mul_le_mul_of_nonneg_right h1 h;have:=Int.mul_le_mul_of_nonneg_right h2 h;omega
 ·have:=Int.mul_le_mul_of_nonpos_right h1 h;have:=Int.mul_le_mul_of_nonpos_right h2 h;omega
theorem zw8{r o:Rg}{x y:Int}(hr:r.Ok)(ho:o.Ok)(hx:r.In x)(hy:o.In y):(r.times o).In (w64 (x*y)):=by
 unfold Rg.times;split
 ·rename_i h;unfold Rg.In at hx hy;have e1:x=r.lo:=by omega
  have i:y=o.lo:=by omega
  rw [e1,i];exact zgS _
 ·split
  ·exact ztV (zeh _)
  ·rename_i h;simp only [not_or,Bool.not_eq_true] at h;obtain⟨d,j,f,l⟩:=h;have k:=zcB hr.1 ho.1 d;have a:=zcB hr.1 ho.2.1 j;have b:=zcB hr.2.1 ho.1 f;have g:=zcB hr.2.1 ho.2.1 l;obtain⟨a1,a2⟩:=zfG (c:=y) hx.1 hx.2;have m:=zfG (c:=r.lo) hy.1 hy.2;have e:=zfG (c:=r.hi) hy.1 hy.2;rw [Int.mul_comm o.lo,Int.mul_comm o.hi,Int.mul_comm y] at m e;unfold i64 at k a b g;generalize r.lo*o.lo=p1 at *;generalize r.lo*o.hi=p2 at *;generalize r.hi*o.lo=p3 at *;generalize r.hi*o.hi=p4 at *;generalize r.lo*y=q1 at *;generalize r.hi*y=q2 at *;rw [zgq (by unfold i64;omega)];unfold Rg.In;dsimp only;omega
theorem zw9{r o:Rg}(hr:r.Ok)(ho:o.Ok):(r.times o).Ok:=by
 unfold Rg.times;split
 ·exact zi8 (zeh _)
 ·split
  ·exact ztW
  ·rename_i h;simp only [not_or,Bool.not_eq_true] at h;obtain⟨b,a,d,c⟩:=h;have i1:=zcB hr.1 ho.1 b;have i2:=zcB hr.1 ho.2.1 a;have i3:=zcB hr.2.1 ho.1 d;have i4:=zcB hr.2.1 ho.2.1 c;unfold Rg.Ok i64 at *;dsimp only;generalize r.lo*o.lo=p1 at *;generalize r.lo*o.hi=p2 at *;generalize r.hi*o.lo=p3 at *;generalize r.hi*o.hi=p4 at *;omega
def zeQ(l r:Rg):Option (Rg × Rg):=if r.hi≤l.lo then none else some (⟨l.lo,min l.hi (r.hi-1)⟩,⟨max (l.lo+1) r.lo,r.hi⟩)
def zb4(l r:Rg):Option (Rg × Rg):=if l.hi<r.lo then none else some (⟨max l.lo r.lo,l.hi⟩,⟨r.lo,min l.hi r.hi⟩)
def zeR(l r:Rg):Option (Rg × Rg):=if max l.lo r.lo≤min l.hi r.hi then some (⟨max l.lo r.lo,min l.hi r.hi⟩,⟨max l.lo r.lo,min l.hi r.hi⟩) else none
def Rg.without(r o:Rg):Rg:=if o.lo=o.hi then(if o.lo=r.lo then⟨r.lo+1,r.hi⟩ else if o.lo=r.hi then⟨r.lo,r.hi-1⟩ else r) else r
def zaM(l r:Rg):Option (Rg × Rg):=if(l.lo=r.lo∧l.hi=r.hi)∧l.lo=l.hi then none else some (l.without r,r.without l)
theorem zy0{l r:Rg}{x y:Int}(hx:l.In x)(hy:r.In y)(h:x<y):∃ a b,zeQ l r=some (a,b)∧a.In x∧b.In y:=by
 unfold Rg.In at *;unfold zeQ;rw [if_neg (by omega)];exact⟨_,_,rfl,by dsimp only;omega,by dsimp only;omega⟩
theorem zrc{l r:Rg}{x y:Int}(hx:l.In x)(hy:r.In y)(h:¬x<y):∃ a b,zb4 l r=some (a,b)∧a.In x∧b.In y:=by
 unfold Rg.In at *;unfold zb4;rw [if_neg (by omega)];exact⟨_,_,rfl,by dsimp only;omega,by dsimp only;omega⟩
theorem zy1{l r:Rg}{x y:Int}(hx:l.In x)(hy:r.In y)(h:x=y):∃ a b,zeR l r=some (a,b)∧a.In x∧b.In y:=by
 unfold Rg.In at *;unfold zeR;rw [if_pos (by omega)];exact⟨_,_,rfl,by dsimp only;omega,by dsimp only;omega⟩
theorem zjU{r o:Rg}{x y:Int}(hx:r.In x)(hy:o.In y)(h:¬x=y):(r.without o).In x:=by
 unfold Rg.In at *;unfold Rg.without
 repeat' split
 all_goals(try dsimp only)
 all_goals omega
theorem zrd{l r:Rg}{x y:Int}(hx:l.In x)(hy:r.In y)(h:¬x=y):∃ a b,zaM l r=some (a,b)∧a.In x∧b.In y:=by
 have c:=zjU hx hy h;have d:=zjU hy hx (fun e=>h e.symm);unfold zaM;rw [if_neg (by unfold Rg.In at hx hy;omega)];exact⟨_,_,rfl,c,d⟩
theorem zy2{l r a b:Rg}(hl:l.Ok)(hr:r.Ok)(h:zeQ l r=some (a,b)):a.Ok∧b.Ok:=by
 unfold zeQ at h;split at h
 ·cases h
 ·simp only [Option.some.injEq,Prod.mk.injEq] at h;obtain⟨rfl,rfl⟩:=h;unfold Rg.Ok i64 at *;dsimp only;omega
theorem zre{l r a b:Rg}(hl:l.Ok)(hr:r.Ok)(h:zb4 l r=some (a,b)):a.Ok∧b.Ok:=by
 unfold zb4 at h;split at h
 ·cases h
 ·simp only [Option.some.injEq,Prod.mk.injEq] at h;obtain⟨rfl,rfl⟩:=h;unfold Rg.Ok i64 at *;dsimp only;omega
theorem zy3{l r a b:Rg}(hl:l.Ok)(hr:r.Ok)(h:zeR l r=some (a,b)):a.Ok∧b.Ok:=by
 unfold zeR at h;split at h
 ·simp only [Option.some.injEq,Prod.mk.injEq] at h;obtain⟨rfl,rfl⟩:=h;unfold Rg.Ok i64 at *;dsimp only;omega
 ·cases h
theorem zrf{l r a b:Rg}(hl:l.Ok)(hr:r.Ok)(h:zaM l r=some (a,b)):a.Ok∧b.Ok:=by
 unfold zaM at h;split at h
 ·cases h
 ·rename_i hn;simp only [Option.some.injEq,Prod.mk.injEq] at h;obtain⟨rfl,rfl⟩:=h;unfold Rg.Ok i64 at *;unfold Rg.without;refine⟨?_,?_⟩;all_goals
   repeat' split
   all_goals(try dsimp only)
   all_goals omega
end Sp
section
open Go.RowKit Sp
theorem zzj(a b:UInt8)(h:((a.toNat:Int) == (b.toNat:Int))=true):a=b:=by
 rw [beq_iff_eq] at h;exact UInt8.toNat_inj.1 (by omega)
theorem zzk(a b:UInt8)(h:((a.toNat:Int) == (b.toNat:Int))=false):¬a=b:=by
 intro e;subst e;simp at h
theorem zxt(a:UInt8)(y:ByteArray)(h:((a.toNat:Int) == 82)=true):opOk a y=decide (0≤reg y):=by
 have:=zzj a 82 h;subst this;rfl
theorem zxu(a:UInt8)(y:ByteArray)(h:((a.toNat:Int) == 75)=true):opOk a y=(zaI y).2:=by
 have:=zzj a 75 h;subst this;rfl
theorem zxv(a:UInt8)(y:ByteArray)(h:((a.toNat:Int) == 82)=false)(h':((a.toNat:Int) == 75)=false):opOk a y=za8 y:=by
 unfold opOk;rw [if_neg (zzk a 82 h),if_neg (zzk a 75 h')]
theorem zvF(s:ByteArray)(w:World)(hs:s.size≤1048576)(hv:zau s 0=true)(x:ByteArray)(hl:Hid (words s=[x]))(hx:x.size≤1048576)(hx1:1≤x.size)(hnf:(x.toList == [102,117,110,99])=false)(hlast:((x[x.size-1].toNat:Int) == 58)=false)(HS:Hid (zaa x=[])):
  qC 46 #[.string s] w (zcv w.heap.size w ⟨105,[x],true⟩):=by
 go_enter Tryz.func46,Tryz.ntmps46;go_wp2_with(first
  | (go_at_call 71;refine(zcn s _ (by omega)).mono ?_;rintro e h ⟨rfl,rfl⟩)
  | (go_at_call 74;refine(zff x _ [] HS).mono ?_;rintro e h ⟨rfl,rfl⟩)
  | (go_at_call 72;refine(zdq s w (by omega) _ hl (by simp)).mono ?_;rintro e j ⟨g,a,rfl,hcap,hmx,f,c,K⟩;obtain⟨hg3,hg2,n,l,i,d0,d1,e0,e1,f0,f1⟩:=K;have hne:¬w.heap.size+1=g:=(by omega);have hne0:¬w.heap.size=g:=(by omega);have d:=f 0 (by simp);simp only [List.getElem_cons_zero] at d))
 refine wp_loop_rounds 1 ?_;rw [rounds_succ];go_wp2
 go_light
 obtain⟨k,m⟩:=zck (W:=zeD w j 105 (.slice (some ⟨g,0,none⟩) 1 a)) (b:=w.heap.size) (zaC l) (zaC i);exact bodyPost_ret (v:=.tuple #[.agg #[.int .u8 105,.slice (some ⟨g,0,none⟩) 1 a],.bool true]) (by simp [results,Tryz.results46,go_sem,k,m]) rfl (zco (by simpa using c) n)
theorem zvG(s:ByteArray)(w:World)(hs:s.size≤1048576)(hv:zau s 0=true)(x:ByteArray)(r:List ByteArray)(hl:Hid (words s=x :: r))(_hx:x.size≤1048576)(_hx1:1≤x.size)(hnf:(x.toList == [102,117,110,99])=false)(hr1:1≤r.length)(hr2:((r.length:Int)+1 == 1)=false)(hrs:∀ j (hj:j<r.length),r[j].size≤1048576)
  (sh:List UInt8) (HS:Hid (zaa x=sh)) (hsh:sh.length≤3) (h63:(sh == [63])=false) (hrl:r.length≤1048576) (hle:sh.length≤r.length) (hge:r.length≤sh.length) :
  qC 46 #[.string s] w (zcv w.heap.size w ⟨105,x :: r,zaX sh r⟩):=by
 have hne1:((r.length:Int)+1 != (sh.length:Int)+1)=false:=by simp;omega
 generalize C:zaX sh r=O;have A:Hid (O=zaX (sh.drop 0) (r.drop 0)):=by rw [←C];rfl
 clear C;go_enter Tryz.func46,Tryz.ntmps46;go_wp2_with(first
  | (go_at_call 71;refine(zcn s _ (by omega)).mono ?_;rintro e l ⟨rfl,rfl⟩)
  | (go_at_call 74;refine(zff x _ sh HS).mono ?_;rintro e l ⟨rfl,rfl⟩)
  | (go_at_call 72;refine(zdq s w (by omega) _ hl (by simp)).mono ?_;rintro e u ⟨g,a,rfl,hcap,hmx,n,c,K⟩;obtain⟨hg3,hg2,t,y,q,d0,d1,e0,e1,f0,f1⟩:=K;have hne:¬w.heap.size+1=g:=(by omega);have hne0:¬w.heap.size=g:=(by omega);have z:=n 0 (by simp);simp only [List.getElem_cons_zero] at z))
 go_loop [11] (fun ti=>∃ k:Nat,k≤sh.length∧ti=.int .i64 (k:Int)∧O=zaX (sh.drop k) (r.drop k)) (fun ti=>sh.length-(intOf ti).toNat)
 case atStart=>exact⟨0,by omega,rfl,A.out⟩
 case round =>
  obtain⟨k,hk,rfl,D⟩:=hrel;clear A;have A:Hid (O=zaX (sh.drop k) (r.drop k)):=D;clear D;by_cases p:k<sh.length
  ·have o:k<r.length:=by omega
   have B:=n (k+1) (by simp;omega);simp only [List.getElem_cons_succ] at B;have hsz:=hrs k o;have E:Hid (O=(opOk sh[k] r[k]&&zaX (sh.drop (k+1)) (r.drop (k+1)))):=by rw [A.out,zjw sh r k p o];rfl
   have hW:k<(⟨sh.toArray⟩:ByteArray).size:=p;cases h82:((((⟨sh.toArray⟩:ByteArray)[k]'hW).toNat:Int) == 82) with
   | true =>
    by_cases f:0≤reg r[k]
    ·have d:Hid (opOk sh[k] r[k]=true):=(zxt sh[k] r[k] h82).trans (by simpa using f);go_wp2_with(go_at_call 75;refine(zmX r[k] _ (by unfold maxLen;omega)).mono ?_;rintro e l ⟨rfl,rfl⟩)
     go_round
     case rel=>exact⟨k+1,by omega,by go_num,by rw [E.out,d.out];simp⟩
     case measure=>simp [intOf];omega
    ·have d:Hid (opOk sh[k] r[k]=false):=(zxt sh[k] r[k] h82).trans (by simpa using f);have hq2:reg r[k]<0:=by omega
     have hq3:decide (0≤reg r[k])=false:=by simpa using f
     go_wp2_with(go_at_call 75;refine(zmX r[k] _ (by unfold maxLen;omega)).mono ?_;rintro e l ⟨rfl,rfl⟩)
     go_light
     obtain⟨h,i⟩:=zck (W:=zeD w u 105 (.slice (some ⟨g,0,none⟩) (r.length+1) a)) (b:=w.heap.size) (zaC y) (zaC q);have m:O=false:=by rw [E.out,d.out];simp
     rw [m];exact bodyPost_ret (v:=.tuple #[.agg #[.int .u8 105,.slice (some ⟨g,0,none⟩) (r.length+1) a],.bool false]) (by simp [results,Tryz.results46,go_sem,h,i]) rfl (zco (by simpa using c) t)
   | false =>
    cases h75:((((⟨sh.toArray⟩:ByteArray)[k]'hW).toNat:Int) == 75) with
    | true =>
     cases f:(zaI r[k]).2 with
     | true =>
      have d:Hid (opOk sh[k] r[k]=true):=(zxu sh[k] r[k] h75).trans f;go_wp2_with(go_at_call 76;refine(znd r[k] _ (by omega)).mono ?_;rintro e l ⟨rfl,rfl⟩)
      go_round
      case rel=>exact⟨k+1,by omega,by go_num,by rw [E.out,d.out];simp⟩
      case measure=>simp [intOf];omega
     | false =>
      have d:Hid (opOk sh[k] r[k]=false):=(zxu sh[k] r[k] h75).trans f;go_wp2_with(go_at_call 76;refine(znd r[k] _ (by omega)).mono ?_;rintro e l ⟨rfl,rfl⟩)
      go_light
      obtain⟨h,i⟩:=zck (W:=zeD w u 105 (.slice (some ⟨g,0,none⟩) (r.length+1) a)) (b:=w.heap.size) (zaC y) (zaC q);have m:O=false:=by rw [E.out,d.out];simp
      rw [m];exact bodyPost_ret (v:=.tuple #[.agg #[.int .u8 105,.slice (some ⟨g,0,none⟩) (r.length+1) a],.bool false]) (by simp [results,Tryz.results46,go_sem,h,i]) rfl (zco (by simpa using c) t)
    | false =>
     cases f:za8 r[k] with
     | true =>
      have d:Hid (opOk sh[k] r[k]=true):=(zxv sh[k] r[k] h82 h75).trans f;go_wp2_with(go_at_call 73;refine(zhz r[k] _ (by omega)).mono ?_;rintro e l ⟨rfl,rfl⟩)
      go_round
      case rel=>exact⟨k+1,by omega,by go_num,by rw [E.out,d.out];simp⟩
      case measure=>simp [intOf];omega
     | false =>
      have d:Hid (opOk sh[k] r[k]=false):=(zxv sh[k] r[k] h82 h75).trans f;go_wp2_with(go_at_call 73;refine(zhz r[k] _ (by omega)).mono ?_;rintro e l ⟨rfl,rfl⟩)
      go_light
      obtain⟨h,i⟩:=zck (W:=zeD w u 105 (.slice (some ⟨g,0,none⟩) (r.length+1) a)) (b:=w.heap.size) (zaC y) (zaC q);have m:O=false:=by rw [E.out,d.out];simp
      rw [m];exact bodyPost_ret (v:=.tuple #[.agg #[.int .u8 105,.slice (some ⟨g,0,none⟩) (r.length+1) a],.bool false]) (by simp [results,Tryz.results46,go_sem,h,i]) rfl (zco (by simpa using c) t)
  ·have E:Hid (O=true):=by rw [A.out,List.drop_of_length_le (by omega)];rfl
   go_wp2
   go_light
   obtain⟨h,i⟩:=zck (W:=zeD w u 105 (.slice (some ⟨g,0,none⟩) (r.length+1) a)) (b:=w.heap.size) (zaC y) (zaC q);rw [E.out];exact bodyPost_ret (v:=.tuple #[.agg #[.int .u8 105,.slice (some ⟨g,0,none⟩) (r.length+1) a],.bool true]) (by simp [results,Tryz.results46,go_sem,h,i]) rfl (zco (by simpa using c) t)
theorem zsK(now:ByteArray)(l:List ByteArray):(zfz now l).length≤l.length+1:=by
 unfold zfz;split <;> simp
theorem zf5(s:ByteArray)(i:Nat)(now:ByteArray)(l:List ByteArray):(za9 s i now l).length≤l.length+(s.size-i)+1:=by
 have hf:=zsK now l;by_cases h:i<s.size
 ·by_cases a:bt s i=32∨bt s i=9∨bt s i=59
  ·by_cases b:bt s i=59
   ·rw [zcI s i now l h b];omega
   ·rw [zbB s i now l h (by omega)];have:=zf5 s (i+1) ByteArray.empty (zfz now l);omega
  ·rw [zfa s i now l h a];have:=zf5 s (i+1) (now++s.extract i (i+1)) l;omega
 ·rw [zdb s i now l h];omega
termination_by s.size-i
theorem zln(s:ByteArray):(words s).length≤s.size+1:=by
 have:=zf5 s 0 ByteArray.empty [];simpa [words] using this
theorem zlo(x:ByteArray):(zaa x).length≤3:=by
 unfold zaa
 repeat' split
 all_goals decide
theorem zsL(x:ByteArray)(h:zlb x=true):x=⟨#[102,117,110,99]⟩:=za0 x _ h
theorem zxI(s:ByteArray)(w:World)(hs:s.size≤1048576):qC 46 #[.string s] w (zcv w.heap.size w (say s)):=by
 cases hv:zau s 0 with
 | false =>
  have e:say s=⟨0,[],false⟩:=by simp [say,hv]
  rw [e];exact zx8 s w hs hv
 | true =>
  have e:say s=sayW (words s):=by simp [say,hv]
  rw [e];have h:=zf1 s;have o:=zln s;cases hl:words s with
  | nil=>exact zvp s w hs hv hl
  | cons x r =>
   rw [hl] at h o;have hx:=h x (by simp);have p:r.length≤1048576:=by simp at o;omega
   cases hf:zlb x with
   | true =>
    have t:sayW (x :: r)=⟨102,x :: r,decide ((x :: r).length=2)&&za8 ((x :: r).getLast?.getD ByteArray.empty)⟩:=by simp only [sayW,hf,if_true]
    rw [t];have:=zsL x hf;subst this
    match r,hl,h with
    | [y],hl,h =>
     have u:=h y (by simp);exact zsh s w hs hv y hl (by omega)
    | [],hl,_=>exact zlc s w hs hv [] hl (by simp)
    | a :: b :: c,hl,_=>simpa using zlc s w hs hv (a :: b :: c) hl (by simp)
   | false =>
    have f:(x.toList == [102,117,110,99])=false:=hf;have hlastE:=zdU x (x.size-1) (by omega);by_cases d:(x :: r).length=1∧zfS x=58
    ·have t:sayW (x :: r)=⟨108,[x.extract 0 (x.size-1)],za8 (x.extract 0 (x.size-1))⟩:=by simp only [sayW,hf];rw [if_neg (by simp),if_pos d]
     rw [t];obtain⟨z,u⟩:=d;have l:r=[]:=List.eq_nil_of_length_eq_zero (by simpa using z);subst l;exact zsi s w hs hv x hl (by omega) (by omega) f (by rw [hlastE,beq_iff_eq];exact u)
    ·have t:sayW (x :: r)=⟨105,x :: r,if zaa x=[63]∨¬(x :: r).length=(zaa x).length+1 then false else zaX (zaa x) r⟩:=by simp only [sayW,hf];rw [if_neg (by simp),if_neg d]
     rw [t];have k:=zlo x;by_cases l:r=[]
     ·subst l;have g:((x[x.size-1].toNat:Int) == 58)=false:=by
       rw [hlastE];simp [zfS] at d;simpa using d
      by_cases i:zaa x=[63]
      ·rw [if_pos (.inl i)];exact zsG s w hs hv x hl (by omega) (by omega) f g (zaa x) rfl k (by simp [i])
      ·by_cases q:(zaa x).length=0
       ·have v:=List.eq_nil_of_length_eq_zero q;rw [if_neg (by simp [v]),v];exact zvF s w hs hv x hl (by omega) (by omega) f g v
       ·rw [if_pos (.inr (by show ¬1=_;omega))];exact zsH s w hs hv x hl (by omega) (by omega) f g (zaa x) rfl k (by simpa using i) (by simp;omega)
     ·have m:1≤r.length:=by cases r with|nil=>exact absurd rfl l|cons a b=>simp
      have n:((r.length:Int)+1 == 1)=false:=by simp;omega
      by_cases i:zaa x=[63]
      ·rw [if_pos (.inl i)];exact zsI s w hs hv x r hl (by omega) (by omega) f p m n (zaa x) rfl k (by simp [i])
      ·by_cases q:r.length=(zaa x).length
       ·rw [if_neg (by simp [i];omega)];exact zvG s w hs hv x r hl (by omega) (by omega) f m n (fun j hj=>by have:=h r[j] (List.mem_cons_of_mem _ (List.getElem_mem hj));omega) (zaa x) rfl k (by simpa using i) p (by omega) (by omega)
       ·rw [if_pos (.inr (by simp;omega))];exact zsJ s w hs hv x r hl (by omega) (by omega) f p m n (zaa x) rfl k (by simpa using i) (zzi _ _ q)
end
namespace Sp
def badB(L:List Said)(q k:Nat):Bool:=if q=0 then zcS L k else if q=1 then zaK L k else zbs L k
def pass(L:List Said)(q j:Nat)(c:Int × Int):Int × Int :=
 if j<L.length then(if badB L q j=true then(3+(q:Int),(j:Int)+1) else pass L q (j+1) c) else c
termination_by L.length-j
theorem zdJ(L:List Said)(q j:Nat)(c:Int × Int)(h:¬j<L.length):pass L q j c=c:=by rw [pass,if_neg h]
theorem zdy(L:List Said)(q j:Nat)(c:Int × Int)(h:j<L.length)(h':badB L q j=true):pass L q j c=(3+(q:Int),(j:Int)+1):=by rw [pass,if_pos h,if_pos h']
theorem zcr(L:List Said)(q j:Nat)(c:Int × Int)(h:j<L.length)(h':badB L q j=false):pass L q j c=pass L q (j+1) c:=by rw [pass,if_pos h,if_neg (by simp [h'])]
def tail(L:List Said)(q:Nat):Int × Int:=if q=0 then pass L 0 0 (pass L 1 0 (pass L 2 0 (0,0))) else if q=1 then pass L 1 0 (pass L 2 0 (0,0)) else if q=2 then pass L 2 0 (0,0) else(0,0)
theorem zid(L:List Said)(q:Nat)(h:q<3):tail L q=pass L q 0 (tail L (q+1)):=by
 match q,h with
 | 0,_=>rfl
 | 1,_=>rfl
 | 2,_=>rfl
def zbt(L:List Said)(i:Nat):Int × Int :=
 if h:i<L.length then(if L[i].kind=0 then zbt L (i+1) else if L[i].kind=102 then tail L 0 else(2,(i:Int)+1)) else(2,0)
termination_by L.length-i
theorem zeu(L:List Said)(i:Nat)(h:¬i<L.length):zbt L i=(2,0):=by rw [zbt,dif_neg h]
theorem zfg(L:List Said)(i:Nat)(h:i<L.length)(h':L[i].kind=0):zbt L i=zbt L (i+1):=by rw [zbt,dif_pos h,if_pos h']
theorem zfY(L:List Said)(i:Nat)(h:i<L.length)(h':¬L[i].kind=0)(h2:L[i].kind=102):zbt L i=tail L 0:=by rw [zbt,dif_pos h,if_neg h',if_pos h2]
theorem zfZ(L:List Said)(i:Nat)(h:i<L.length)(h':¬L[i].kind=0)(h2:¬L[i].kind=102):zbt L i=(2,(i:Int)+1):=by rw [zbt,dif_pos h,if_neg h',if_neg h2]
def zbO(A:List ByteArray)(i:Nat):Int × Int :=
 if h:i<A.length then(if(say A[i]).ok=true then zbO A (i+1) else(1,(i:Int)+1)) else zbt (A.map say) 0
termination_by A.length-i
theorem zga(A:List ByteArray)(i:Nat)(h:¬i<A.length):zbO A i=zbt (A.map say) 0:=by rw [zbO,dif_neg h]
theorem zfh(A:List ByteArray)(i:Nat)(h:i<A.length)(h':(say A[i]).ok=true):zbO A i=zbO A (i+1):=by rw [zbO,dif_pos h,if_pos h']
theorem zeb(A:List ByteArray)(i:Nat)(h:i<A.length)(h':(say A[i]).ok=false):zbO A i=(1,(i:Int)+1):=by rw [zbO,dif_pos h,if_neg (by simp [h'])]
def zaQ(s:ByteArray):Int × Int:=if 4000<s.size∨300<(lines s).length then(6,0) else zbO (lines s) 0
theorem zf7(s:ByteArray)(f i:Nat):1≤(zci s f i).length∧(zci s f i).length≤s.size-i+1:=by
 by_cases h:i<s.size
 ·by_cases a:bt s i=10
  ·rw [zem s f i h a];have:=zf7 s (i+1) (i+1);simp;omega
  ·rw [zeZ s f i h a];have:=zf7 s f (i+1);omega
 ·rw [zel s f i h];simp
termination_by s.size-i
theorem zgb(s:ByteArray):1≤(lines s).length∧(lines s).length≤s.size+1:=zf7 s 0 0
theorem zev(s:ByteArray)(f i:Nat):∀ x∈zci s f i,x.size≤s.size:=by
 by_cases h:i<s.size
 ·by_cases b:bt s i=10
  ·rw [zem s f i h b];intro x a;rw [List.mem_cons] at a;rcases a with rfl|a
   ·rw [ByteArray.size_extract];omega
   ·exact zev s (i+1) (i+1) x a
  ·rw [zeZ s f i h b];exact zev s f (i+1)
 ·rw [zel s f i h];intro x a;simp at a;subst a;rw [ByteArray.size_extract];omega
termination_by s.size-i
theorem zew(s:ByteArray):∀ x∈lines s,x.size≤s.size:=zev s 0 0
theorem zsN(s:ByteArray)(h:(say s).ok=true):Wf (say s):=by
 unfold say at h ⊢;split at h
 ·rename_i hv;rw [if_pos hv];generalize words s=l at h ⊢;unfold sayW at h ⊢;split at h
  ·exact .inl ⟨rfl,rfl⟩
  ·rename_i x r;by_cases a:zlb x=true
   ·rw [if_pos a] at h ⊢;simp only [Bool.and_eq_true,decide_eq_true_eq] at h;exact .inr (.inl ⟨rfl,h.1⟩)
   ·rw [if_neg a] at h ⊢;by_cases b:(x :: r).length=1∧zfS x=58
    ·rw [if_pos b] at h ⊢;exact .inr (.inr (.inl ⟨rfl,rfl⟩))
    ·rw [if_neg b] at h ⊢;simp only at h;split at h
     ·cases h
     ·rename_i hs;refine .inr (.inr (.inr ⟨rfl,by simp,?_⟩));have h3:(zaa x).length≤3:=by
       unfold zaa
       repeat' split
       all_goals decide
      have h4:(x :: r).length=(zaa x).length+1:=by
       rcases Classical.em ((x :: r).length=(zaa x).length+1) with h|h
       ·exact h
       ·exact absurd (.inr h) hs
      show(x :: r).length≤4;omega
 ·cases h
end Sp
section
open Go.RowKit Sp
def SlN(w:World)(v:Value)(l:List Int):Prop:=∃ ao cap,v=.slice ao l.length cap∧(0<l.length→∃ g o,ao=some ⟨g,o,none⟩∧∀ j (h:j<l.length),w.cell? ⟨g,o+j,none⟩=some (.int .i64 l[j]))
theorem SlN.of_row{w:World}{B _n:Nat}{v:Value}{l:List Int}(h:w.ownsRow B 2 1 v l.length (i64s l)):SlN w v l:=by
 obtain⟨b,a,rfl⟩:=zb7 h;refine⟨b,a,rfl,fun hp=>?_⟩;obtain⟨g,c,e,_,_⟩:=h.form hp;simp only [Value.slice.injEq,true_and] at e;obtain⟨rfl,rfl⟩:=e;refine⟨g,0,rfl,fun j hj=>?_⟩;rw [Nat.zero_add,World.ownsRow.cellAt h j (by omega)];simp [hj]
theorem zdK(w:World)(va vb:Value)(l:List Int)(ha:SlN w va l)(hb:SlN w vb l)(hn:l.length≤1048577):
  qC 19 #[va,vb] w fun e w'=>e=.returned (.bool true)∧∃ n,w'=w.drewN n:=by
 obtain⟨ao,ca,rfl,c⟩:=ha;obtain⟨bo,cb,rfl,g⟩:=hb;go_enter Tryz.func19,Tryz.ntmps19;go_wp2
 go_loopw [5] (fun ti wr=>∃ j n:Nat,j≤l.length∧ti=.int .i64 (j:Int)∧wr=w.drewN n) (fun ti _=>l.length-(intOf ti).toNat)
 case atStart=>exact⟨0,0,by omega,rfl,rfl⟩
 case round =>
  obtain⟨j,n,hj,rfl,rfl⟩:=hrel;by_cases a:j<l.length
  ·obtain⟨o,p,rfl,f⟩:=c (by omega);obtain⟨q,r,rfl,b⟩:=g (by omega);have h:(w.drewN n).cell? ⟨o,p+j,none⟩=some (.int .i64 l[j]):=f j a;have m:(w.drewN n).cell? ⟨q,r+j,none⟩=some (.int .i64 l[j]):=b j a;have d:∀ k,(w.drewN n).drewN k=w.drewN (n+k):=fun k=>by rw [World.drewN_drewN]
   have i:Hid (∀ k,(w.drewN n).drewN k=w.drewN (n+k)):=d;clear d f b c g;have hj0:(0:Int)≤(j:Int):=by omega
   have hj1:(j:Int)<(l.length:Int):=by omega
   generalize l[j]=x at h m;generalize w.drewN n=W at h m i ⊢;go_wp2_with fail
   go_quiet(fail)
   go_wp2;go_roundw
   case rel=>exact⟨j+1,_,by omega,by go_num,i.out nq⟩
   case measure=>simp [intOf];omega
  ·go_wp2;go_ret;exact⟨rfl,n,rfl⟩
theorem zaO{w:World}{a b c:Obj}:qB w (((w.alloc a).alloc b).alloc c):=(((Below.refl _ _).alloc (Nat.le_refl _) _).alloc (by simp) _).alloc (by simp;omega) _
theorem ztJ(w:World)(ao bo:Option Addr)(n1 c1 n2 c2 pm:Nat)(sort line a b c n k to:Int)(nm:ByteArray)
  (hlab:∀ W,qB w W→qC 108 #[.agg #[.slice ao n1 c1,.map (some pm),.slice bo n2 c2],.string nm,.int .i64 k] W (qR W (.int .i64 to))) :
  qC 81 #[.agg #[.slice ao n1 c1,.map (some pm),.slice bo n2 c2],stm sort line ⟨#[106,117,109,112]⟩ a b c n nm,.int .i64 k] w (qR w (.iface 185 (.agg #[.int .i64 to]))):=by
 have hrb:∀ W,(Instr.build 185 #[(0,.int .i64 to)]).run Tryz.prog W=.ok (.agg #[.int .i64 to]) W:=fun W=>run_build W 185 _ _ (by kernel_rfl);have d:qB w (((w.alloc (.cells #[.slice ao n1 c1,.map (some pm),.slice bo n2 c2] 128)).alloc (.cells #[.int .i64 sort,.int .i64 line,.string ⟨#[106,117,109,112]⟩,.int .i64 a,.int .i64 b,.int .i64 c,.int .i64 n,.string nm] 135)).alloc (.cells #[.int .i64 a,.int .i64 b,.int .i64 c] 133)):=zaO;go_enter Tryz.func81,Tryz.ntmps81;go_wp2_with(first|(go_at_call 108;refine(hlab _ d).mono ?_;rintro e w2 ⟨rfl,f⟩))
 go_ret;exact⟨rfl,d.trans (f.mono d.size)⟩
theorem ztK(w:World)(ao bo:Option Addr)(n1 c1 n2 c2 pm:Nat)(sort line a b c n k to:Int)(nm:ByteArray)
  (hlab:∀ W,qB w W→qC 109 #[.agg #[.slice ao n1 c1,.map (some pm),.slice bo n2 c2],.string nm] W (qR W (.int .i64 to))) :
  qC 81 #[.agg #[.slice ao n1 c1,.map (some pm),.slice bo n2 c2],stm sort line ⟨#[99,97,108,108]⟩ a b c n nm,.int .i64 k] w (qR w (.iface 190 (.agg #[.int .i64 to]))):=by
 have hrb:∀ W,(Instr.build 190 #[(0,.int .i64 to)]).run Tryz.prog W=.ok (.agg #[.int .i64 to]) W:=fun W=>run_build W 190 _ _ (by kernel_rfl);have d:qB w (((w.alloc (.cells #[.slice ao n1 c1,.map (some pm),.slice bo n2 c2] 128)).alloc (.cells #[.int .i64 sort,.int .i64 line,.string ⟨#[99,97,108,108]⟩,.int .i64 a,.int .i64 b,.int .i64 c,.int .i64 n,.string nm] 135)).alloc (.cells #[.int .i64 a,.int .i64 b,.int .i64 c] 133)):=zaO;go_enter Tryz.func81,Tryz.ntmps81;go_wp2_with(first|(go_at_call 109;refine(hlab _ d).mono ?_;rintro e w2 ⟨rfl,f⟩))
 go_ret;exact⟨rfl,d.trans (f.mono d.size)⟩
theorem zaG(w:World)(a b:Obj)(cs:Array Value)(t:TypeId)(j:Nat):(((w.alloc a).alloc b).alloc (.cells cs t)).cell? ⟨w.heap.size+1+1,j,none⟩=cs[j]?:=by
 have h:=World.cell?_alloc_new (w:=(w.alloc a).alloc b) cs t j;rw [show((w.alloc a).alloc b).heap.size=w.heap.size+1+1 by simp] at h;exact h
theorem zcM(w:World)(a c:Obj)(cs:Array Value)(t:TypeId)(j:Nat):(((w.alloc a).alloc (.cells cs t)).alloc c).cell? ⟨w.heap.size+1,j,none⟩=cs[j]?:=by
 have h:=World.cell?_alloc_new (w:=w.alloc a) cs t j;rw [show(w.alloc a).heap.size=w.heap.size+1 by simp] at h;rw [←h];exact World.cell?_of_block (w:=(w.alloc a).alloc (.cells cs t)) (((Below.refl ((w.alloc a).alloc (.cells cs t)).heap.size ((w.alloc a).alloc (.cells cs t))).alloc (Nat.le_refl _) c).block (w.heap.size+1) (by simp))
theorem zbr(w:World)(b c:Obj)(cs:Array Value)(t:TypeId)(j:Nat):(((w.alloc (.cells cs t)).alloc b).alloc c).cell? ⟨w.heap.size,j,none⟩=cs[j]?:=by
 have h:=World.cell?_alloc_new (w:=w) cs t j;rw [←h];exact World.cell?_of_block (w:=w.alloc (.cells cs t)) ((((Below.refl (w.alloc (.cells cs t)).heap.size (w.alloc (.cells cs t))).alloc (Nat.le_refl _) b).alloc (by simp) c).block w.heap.size (by simp))
theorem zap{w w':World}(hb:qB w w'){p:Addr}{v:Value}(h:w.cell? p=some v):w'.cell? p=some v:=(hb.cell (World.block_lt_of_cell? w p h)).trans h
theorem ztL(w:World)(ao bo:Option Addr)(n1 c1 n2 c2 pm:Nat)(sort line a b c n k to:Int)(nm:ByteArray)
  (hlab:∀ W,qB w W→qC 108 #[.agg #[.slice ao n1 c1,.map (some pm),.slice bo n2 c2],.string nm,.int .i64 k] W (qR W (.int .i64 to))) :
  qC 81 #[.agg #[.slice ao n1 c1,.map (some pm),.slice bo n2 c2],stm sort line ⟨#[108,101,115,115]⟩ a b c n nm,.int .i64 k] w (qR w (.iface 187 (.agg #[.int .i64 a,.int .i64 b,.int .i64 to]))):=by
 have hrb:∀ W,(Instr.build 187 #[(0,.int .i64 a),(1,.int .i64 b),(2,.int .i64 to)]).run Tryz.prog W=.ok (.agg #[.int .i64 a,.int .i64 b,.int .i64 to]) W:=fun W=>run_build W 187 _ _ (by kernel_rfl);have f:qB w (((w.alloc (.cells #[.slice ao n1 c1,.map (some pm),.slice bo n2 c2] 128)).alloc (.cells #[.int .i64 sort,.int .i64 line,.string ⟨#[108,101,115,115]⟩,.int .i64 a,.int .i64 b,.int .i64 c,.int .i64 n,.string nm] 135)).alloc (.cells #[.int .i64 a,.int .i64 b,.int .i64 c] 133)):=zaO;go_enter Tryz.func81,Tryz.ntmps81;go_wp2_with fail
 go_region_held3 (fun W=>qB w W∧W.cell? ⟨w.heap.size,0,none⟩=some (.slice ao n1 c1)∧W.cell? ⟨w.heap.size,1,none⟩=some (.map (some pm))∧W.cell? ⟨w.heap.size,2,none⟩=some (.slice bo n2 c2) ∧
   W.cell? ⟨w.heap.size+1,7,none⟩=some (.string nm)∧W.cell? ⟨w.heap.size+1+1,0,none⟩=some (.int .i64 a)∧W.cell? ⟨w.heap.size+1+1,1,none⟩=some (.int .i64 b))
  (first
    | (refine⟨f.drew,zbr _ _ _ _ _ 0,zbr _ _ _ _ _ 1,zbr _ _ _ _ _ 2,zcM _ _ _ _ _ 7,zaG _ _ _ _ _ 0,zaG _ _ _ _ _ 1⟩)
    | go_keep
    | (refine⟨f.drew.trans (d.mono f.drew.size),zap d (zbr _ _ _ _ _ 0),zap d (zbr _ _ _ _ _ 1),zap d (zbr _ _ _ _ _ 2),zap d (zcM _ _ _ _ _ 7),zap d (zaG _ _ _ _ _ 0),zap d (zaG _ _ _ _ _ 1)⟩))
  ((go_at_call 108;refine(hlab _ f.drew).mono ?_;rintro e w2 ⟨rfl,d⟩))
 go_wp2;go_ret;exact⟨rfl,f.drew.trans (d.mono f.drew.size)⟩
theorem ztM(w:World)(ao bo:Option Addr)(n1 c1 n2 c2 pm:Nat)(sort line a b c n k to:Int)(nm:ByteArray)
  (hlab:∀ W,qB w W→qC 108 #[.agg #[.slice ao n1 c1,.map (some pm),.slice bo n2 c2],.string nm,.int .i64 k] W (qR W (.int .i64 to))) :
  qC 81 #[.agg #[.slice ao n1 c1,.map (some pm),.slice bo n2 c2],stm sort line ⟨#[115,97,109,101]⟩ a b c n nm,.int .i64 k] w (qR w (.iface 188 (.agg #[.int .i64 a,.int .i64 b,.int .i64 to]))):=by
 have hrb:∀ W,(Instr.build 188 #[(0,.int .i64 a),(1,.int .i64 b),(2,.int .i64 to)]).run Tryz.prog W=.ok (.agg #[.int .i64 a,.int .i64 b,.int .i64 to]) W:=fun W=>run_build W 188 _ _ (by kernel_rfl);have f:qB w (((w.alloc (.cells #[.slice ao n1 c1,.map (some pm),.slice bo n2 c2] 128)).alloc (.cells #[.int .i64 sort,.int .i64 line,.string ⟨#[115,97,109,101]⟩,.int .i64 a,.int .i64 b,.int .i64 c,.int .i64 n,.string nm] 135)).alloc (.cells #[.int .i64 a,.int .i64 b,.int .i64 c] 133)):=zaO;go_enter Tryz.func81,Tryz.ntmps81;go_wp2_with fail
 go_region_held3 (fun W=>qB w W∧W.cell? ⟨w.heap.size,0,none⟩=some (.slice ao n1 c1)∧W.cell? ⟨w.heap.size,1,none⟩=some (.map (some pm))∧W.cell? ⟨w.heap.size,2,none⟩=some (.slice bo n2 c2) ∧
   W.cell? ⟨w.heap.size+1,7,none⟩=some (.string nm)∧W.cell? ⟨w.heap.size+1+1,0,none⟩=some (.int .i64 a)∧W.cell? ⟨w.heap.size+1+1,1,none⟩=some (.int .i64 b))
  (first
    | (refine⟨f.drew,zbr _ _ _ _ _ 0,zbr _ _ _ _ _ 1,zbr _ _ _ _ _ 2,zcM _ _ _ _ _ 7,zaG _ _ _ _ _ 0,zaG _ _ _ _ _ 1⟩)
    | go_keep
    | (refine⟨f.drew.trans (d.mono f.drew.size),zap d (zbr _ _ _ _ _ 0),zap d (zbr _ _ _ _ _ 1),zap d (zbr _ _ _ _ _ 2),zap d (zcM _ _ _ _ _ 7),zap d (zaG _ _ _ _ _ 0),zap d (zaG _ _ _ _ _ 1)⟩))
  ((go_at_call 108;refine(hlab _ f.drew).mono ?_;rintro e w2 ⟨rfl,d⟩))
 go_wp2;go_ret;exact⟨rfl,f.drew.trans (d.mono f.drew.size)⟩
end
end Go.Proofs.YtfpgjkbjbbgciaaGreatDoor
