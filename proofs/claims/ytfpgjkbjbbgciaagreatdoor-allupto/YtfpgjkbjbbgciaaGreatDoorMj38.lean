import Derived.Test.YtfpgjkbjbbgciaaGreatDoorMj31
import Derived.Test.YtfpgjkbjbbgciaaGreatDoorMj35
set_option maxRecDepth 100000
set_option maxHeartbeats 8000000
namespace Go.Proofs.YtfpgjkbjbbgciaaGreatDoor
section
open Sp
def labM(F:List FnM)(k:Nat)(x:ByteArray):Int:=(lenF (F.take k):Int)+(((match F[k]? with|none=>none|some f=>zcb (zc7 f.its) x).getD 0:Nat):Int)
def fnM(F:List FnM)(x:ByteArray):Int:=(lenF (F.take ((zcb (zb3 F) x).getD 0)):Int)
def insX(w:ByteArray)(a b c n l f:Int):Ins :=
 if isW w [106,117,109,112]=true then .jump l
 else if isW w [108,101,115,115]=true then .less a.toNat b.toNat l
 else if isW w [115,97,109,101]=true then .same a.toNat b.toNat l
 else if isW w [99,97,108,108]=true then .call f
 else if isW w [98,97,99,107]=true then .back
 else if isW w [115,116,111,112]=true then .stop
 else if isW w [115,101,116]=true then .set a.toNat n
 else if isW w [109,111,118]=true then .mov a.toNat b.toNat
 else if isW w [97,100,100]=true then .alu 0 a.toNat b.toNat c.toNat
 else if isW w [115,117,98]=true then .alu 1 a.toNat b.toNat c.toNat
 else if isW w [109,117,108]=true then .alu 2 a.toNat b.toNat c.toNat
 else if isW w [105,110,99]=true then .inc a.toNat n
 else if isW w [108,111,97,100]=true then .load a.toNat b.toNat
 else if isW w [115,116,111,114,101]=true then .store a.toNat b.toNat
 else if isW w [114,101,97,100]=true then .read a.toNat
 else .write a.toNat
def insM(F:List FnM)(k:Nat)(i:It):Ins:=insX i.word i.a i.b i.c i.n (labM F k i.nm) (fnM F i.nm)
theorem zpe(a b c n l f:Int):insX ⟨#[115,101,116]⟩ a b c n l f=.set a.toNat n:=by kernel_rfl
theorem zpf(a b c n l f:Int):insX ⟨#[105,110,99]⟩ a b c n l f=.inc a.toNat n:=by kernel_rfl
theorem zpg(a b c n l f:Int):insX ⟨#[109,111,118]⟩ a b c n l f=.mov a.toNat b.toNat:=by kernel_rfl
theorem zlZ(a b c n l f:Int):insX ⟨#[108,111,97,100]⟩ a b c n l f=.load a.toNat b.toNat:=by kernel_rfl
theorem zjL(a b c n l f:Int):insX ⟨#[115,116,111,114,101]⟩ a b c n l f=.store a.toNat b.toNat:=by kernel_rfl
theorem zph(a b c n l f:Int):insX ⟨#[97,100,100]⟩ a b c n l f=.alu 0 a.toNat b.toNat c.toNat:=by kernel_rfl
theorem zpi(a b c n l f:Int):insX ⟨#[115,117,98]⟩ a b c n l f=.alu 1 a.toNat b.toNat c.toNat:=by kernel_rfl
theorem zpj(a b c n l f:Int):insX ⟨#[109,117,108]⟩ a b c n l f=.alu 2 a.toNat b.toNat c.toNat:=by kernel_rfl
theorem zma(a b c n l f:Int):insX ⟨#[114,101,97,100]⟩ a b c n l f=.read a.toNat:=by kernel_rfl
theorem zjM(a b c n l f:Int):insX ⟨#[119,114,105,116,101]⟩ a b c n l f=.write a.toNat:=by kernel_rfl
theorem zmb(a b c n l f:Int):insX ⟨#[106,117,109,112]⟩ a b c n l f=.jump l:=by kernel_rfl
theorem zmc(a b c n l f:Int):insX ⟨#[99,97,108,108]⟩ a b c n l f=.call f:=by kernel_rfl
theorem zmd(a b c n l f:Int):insX ⟨#[108,101,115,115]⟩ a b c n l f=.less a.toNat b.toNat l:=by kernel_rfl
theorem zme(a b c n l f:Int):insX ⟨#[115,97,109,101]⟩ a b c n l f=.same a.toNat b.toNat l:=by kernel_rfl
theorem zi1(a b c n l f:Int):insX ⟨#[98,97,99,107]⟩ a b c n l f=.back:=by kernel_rfl
theorem zmf(a b c n l f:Int):insX ⟨#[115,116,111,112]⟩ a b c n l f=.stop:=by kernel_rfl
theorem ztD(x1 x2:ByteArray)(ok:Bool):opQ ⟨105,[⟨#[115,101,116]⟩,x1,x2],ok⟩=⟨⟨#[]⟩,zaH x1,0,0,zcZ x2⟩:=by kernel_rfl
theorem ztE(x1 x2:ByteArray)(ok:Bool):opQ ⟨105,[⟨#[105,110,99]⟩,x1,x2],ok⟩=⟨⟨#[]⟩,zaH x1,0,0,zcZ x2⟩:=by kernel_rfl
theorem ztF(x1 x2:ByteArray)(ok:Bool):opQ ⟨105,[⟨#[109,111,118]⟩,x1,x2],ok⟩=⟨⟨#[]⟩,zaH x1,zaH x2,0,0⟩:=by kernel_rfl
theorem zpk(x1 x2:ByteArray)(ok:Bool):opQ ⟨105,[⟨#[108,111,97,100]⟩,x1,x2],ok⟩=⟨⟨#[]⟩,zaH x1,zaH x2,0,0⟩:=by kernel_rfl
theorem zmg(x1 x2:ByteArray)(ok:Bool):opQ ⟨105,[⟨#[115,116,111,114,101]⟩,x1,x2],ok⟩=⟨⟨#[]⟩,zaH x1,zaH x2,0,0⟩:=by kernel_rfl
theorem ztG(x1 x2 x3:ByteArray)(ok:Bool):opQ ⟨105,[⟨#[97,100,100]⟩,x1,x2,x3],ok⟩=⟨⟨#[]⟩,zaH x1,zaH x2,zaH x3,0⟩:=by kernel_rfl
theorem ztH(x1 x2 x3:ByteArray)(ok:Bool):opQ ⟨105,[⟨#[115,117,98]⟩,x1,x2,x3],ok⟩=⟨⟨#[]⟩,zaH x1,zaH x2,zaH x3,0⟩:=by kernel_rfl
theorem ztI(x1 x2 x3:ByteArray)(ok:Bool):opQ ⟨105,[⟨#[109,117,108]⟩,x1,x2,x3],ok⟩=⟨⟨#[]⟩,zaH x1,zaH x2,zaH x3,0⟩:=by kernel_rfl
theorem zpl(x1:ByteArray)(ok:Bool):opQ ⟨105,[⟨#[114,101,97,100]⟩,x1],ok⟩=⟨⟨#[]⟩,zaH x1,0,0,0⟩:=by kernel_rfl
theorem zmh(x1:ByteArray)(ok:Bool):opQ ⟨105,[⟨#[119,114,105,116,101]⟩,x1],ok⟩=⟨⟨#[]⟩,zaH x1,0,0,0⟩:=by kernel_rfl
theorem zjN(x1:ByteArray)(ok:Bool):zdP ⟨105,[⟨#[106,117,109,112]⟩,x1],ok⟩=x1:=by kernel_rfl
theorem zjO(x1:ByteArray)(ok:Bool):zdP ⟨105,[⟨#[99,97,108,108]⟩,x1],ok⟩=x1:=by kernel_rfl
theorem zpm(x1 x2 x3:ByteArray)(ok:Bool):opQ ⟨105,[⟨#[108,101,115,115]⟩,x1,x2,x3],ok⟩=⟨x3,zaH x1,zaH x2,0,0⟩:=by kernel_rfl
theorem zjP(x1 x2 x3:ByteArray)(ok:Bool):zdP ⟨105,[⟨#[108,101,115,115]⟩,x1,x2,x3],ok⟩=x3:=by kernel_rfl
theorem zpn(x1 x2 x3:ByteArray)(ok:Bool):opQ ⟨105,[⟨#[115,97,109,101]⟩,x1,x2,x3],ok⟩=⟨x3,zaH x1,zaH x2,0,0⟩:=by kernel_rfl
theorem zjQ(x1 x2 x3:ByteArray)(ok:Bool):zdP ⟨105,[⟨#[115,97,109,101]⟩,x1,x2,x3],ok⟩=x3:=by kernel_rfl
theorem za2(x:ByteArray):(zaH x).toNat=regN x:=by
 unfold zaH regN;split
 ·rfl
 ·rename_i h;have:reg x<0:=by omega
  rw [show(reg x).toNat=0 from Int.toNat_of_nonpos (by omega)];rfl
theorem zmi(x:ByteArray)(h:(zaI x).2=true):zcZ x=(zaI x).1:=if_pos h
def Goes(N:Nat):Ins→Prop
 | .jump to=>InC N to
 | .less _ _ to=>InC N to
 | .same _ _ to=>InC N to
 | .call to=>InC N to
 | _=>True
def Ends:Ins→Prop
 | .jump _=>True
 | .back=>True
 | .stop=>True
 | _=>False
theorem zwu(q:Said)(h5:q.kind=105)(Fm:Form q.kept)(it:It)(line:Int)(hkey:it.key=keyQ q line)(F:List FnM)(k:Nat)(L:List Said)(j N:Nat)(f:Int→Int)
  (hlab:zaJ (q.word 0)=true→f (labM F k q.last)=ze9 L j q.last∧InC N (labM F k q.last))
  (hfn:zc2 (q.word 0)=true→f (fnM F q.last)=fnTo L q.last∧InC N (fnM F q.last)) :
  insQ L j q=zlY f (insM F k it)∧zhw (insM F k it)∧Goes N (insM F k it)∧(ends (q.word 0)=false∨Ends (insM F k it)):=by
 have h:it.word=zeH q:=congrArg Key.word hkey;have d:it.a=(opQ q).a:=congrArg Key.a hkey;have g:it.b=(opQ q).b:=congrArg Key.b hkey;have l:it.c=(opQ q).c:=congrArg Key.c hkey;have p:it.n=(opQ q).n:=congrArg Key.n hkey;have r:it.nm=zdP q:=congrArg Key.nm hkey;clear hkey;obtain⟨kd,kp,i⟩:=q;simp only at h5 Fm;subst h5;unfold insM;cases Fm with
 | set_ x1 x2 hx1 hx2 =>
  have o:it.word=⟨#[115,101,116]⟩:=h;rw [ztD] at d g l p;rw [o,zpe,d,p,zoK L j ⟨105,[⟨#[115,101,116]⟩,x1,x2],i⟩ x1 x2 rfl];have e:=(zax x1 hx1).1;simp only [za2 x1,zmi x2 hx2];exact⟨rfl,e,trivial,.inl (by kernel_rfl)⟩
 | inc_ x1 x2 hx1 hx2 =>
  have o:it.word=⟨#[105,110,99]⟩:=h;rw [ztE] at d g l p;rw [o,zpf,d,p,zoP L j ⟨105,[⟨#[105,110,99]⟩,x1,x2],i⟩ x1 x2 rfl];have e:=(zax x1 hx1).1;simp only [za2 x1,zmi x2 hx2];exact⟨rfl,e,trivial,.inl (by kernel_rfl)⟩
 | mov_ x1 x2 hx1 hx2 =>
  have o:it.word=⟨#[109,111,118]⟩:=h;rw [ztF] at d g l p;rw [o,zpg,d,g,zoL L j ⟨105,[⟨#[109,111,118]⟩,x1,x2],i⟩ x1 x2 rfl];have e:=(zax x1 hx1).1;have m:=(zax x2 hx2).1;simp only [za2 x1,za2 x2];exact⟨rfl,⟨e,m⟩,trivial,.inl (by kernel_rfl)⟩
 | load_ x1 x2 hx1 hx2 =>
  have o:it.word=⟨#[108,111,97,100]⟩:=h;rw [zpk] at d g l p;rw [o,zlZ,d,g,zlP L j ⟨105,[⟨#[108,111,97,100]⟩,x1,x2],i⟩ x1 x2 rfl];have e:=(zax x1 hx1).1;have m:=(zax x2 hx2).1;simp only [za2 x1,za2 x2];exact⟨rfl,⟨e,m⟩,trivial,.inl (by kernel_rfl)⟩
 | store_ x1 x2 hx1 hx2 =>
  have o:it.word=⟨#[115,116,111,114,101]⟩:=h;rw [zmg] at d g l p;rw [o,zjL,d,g,zjE L j ⟨105,[⟨#[115,116,111,114,101]⟩,x1,x2],i⟩ x1 x2 rfl];have e:=(zax x1 hx1).1;have m:=(zax x2 hx2).1;simp only [za2 x1,za2 x2];exact⟨rfl,⟨e,m⟩,trivial,.inl (by kernel_rfl)⟩
 | add_ x1 x2 x3 hx1 hx2 hx3 =>
  have o:it.word=⟨#[97,100,100]⟩:=h;rw [ztG] at d g l p;rw [o,zph,d,g,l,zoM L j ⟨105,[⟨#[97,100,100]⟩,x1,x2,x3],i⟩ x1 x2 x3 rfl];have e:=(zax x1 hx1).1;have m:=(zax x2 hx2).1;have v:=(zax x3 hx3).1;simp only [za2 x1,za2 x2,za2 x3];exact⟨rfl,⟨by decide,e,m,v⟩,trivial,.inl (by kernel_rfl)⟩
 | sub_ x1 x2 x3 hx1 hx2 hx3 =>
  have o:it.word=⟨#[115,117,98]⟩:=h;rw [ztH] at d g l p;rw [o,zpi,d,g,l,zoN L j ⟨105,[⟨#[115,117,98]⟩,x1,x2,x3],i⟩ x1 x2 x3 rfl];have e:=(zax x1 hx1).1;have m:=(zax x2 hx2).1;have v:=(zax x3 hx3).1;simp only [za2 x1,za2 x2,za2 x3];exact⟨rfl,⟨by decide,e,m,v⟩,trivial,.inl (by kernel_rfl)⟩
 | mul_ x1 x2 x3 hx1 hx2 hx3 =>
  have o:it.word=⟨#[109,117,108]⟩:=h;rw [ztI] at d g l p;rw [o,zpj,d,g,l,zoO L j ⟨105,[⟨#[109,117,108]⟩,x1,x2,x3],i⟩ x1 x2 x3 rfl];have e:=(zax x1 hx1).1;have m:=(zax x2 hx2).1;have v:=(zax x3 hx3).1;simp only [za2 x1,za2 x2,za2 x3];exact⟨rfl,⟨by decide,e,m,v⟩,trivial,.inl (by kernel_rfl)⟩
 | read_ x1 hx1 =>
  have o:it.word=⟨#[114,101,97,100]⟩:=h;rw [zpl] at d g l p;rw [o,zma,d,zlQ L j ⟨105,[⟨#[114,101,97,100]⟩,x1],i⟩ x1 rfl];have e:=(zax x1 hx1).1;simp only [za2 x1];exact⟨rfl,e,trivial,.inl (by kernel_rfl)⟩
 | write_ x1 hx1 =>
  have o:it.word=⟨#[119,114,105,116,101]⟩:=h;rw [zmh] at d g l p;rw [o,zjM,d,zjF L j ⟨105,[⟨#[119,114,105,116,101]⟩,x1],i⟩ x1 rfl];have e:=(zax x1 hx1).1;simp only [za2 x1];exact⟨rfl,e,trivial,.inl (by kernel_rfl)⟩
 | jump_ x1 hx1 =>
  have o:it.word=⟨#[106,117,109,112]⟩:=h;rw [zjN] at r;rw [o,zmb,r,zlJ L j ⟨105,[⟨#[106,117,109,112]⟩,x1],i⟩ x1 rfl];obtain⟨s,t⟩:=hlab (by kernel_rfl);have u:f (labM F k x1)=ze9 L j x1:=s;exact⟨by simp only [zlY];rw [u],trivial,t,.inr trivial⟩
 | call_ x1 hx1 =>
  have o:it.word=⟨#[99,97,108,108]⟩:=h;rw [zjO] at r;rw [o,zmc,r,zlM L j ⟨105,[⟨#[99,97,108,108]⟩,x1],i⟩ x1 rfl];obtain⟨s,t⟩:=hfn (by kernel_rfl);have u:f (fnM F x1)=fnTo L x1:=s;exact⟨by simp only [zlY];rw [u],trivial,t,.inl (by kernel_rfl)⟩
 | less_ x1 x2 x3 hx1 hx2 hx3 =>
  have o:it.word=⟨#[108,101,115,115]⟩:=h;rw [zpm] at d g l p;rw [zjP] at r;rw [o,zmd,d,g,r,zlK L j ⟨105,[⟨#[108,101,115,115]⟩,x1,x2,x3],i⟩ x1 x2 x3 rfl];have e:=(zax x1 hx1).1;have m:=(zax x2 hx2).1;simp only [za2 x1,za2 x2];obtain⟨s,t⟩:=hlab (by kernel_rfl);have u:f (labM F k x3)=ze9 L j x3:=s;exact⟨by simp only [zlY];rw [u],⟨e,m⟩,t,.inl (by kernel_rfl)⟩
 | same_ x1 x2 x3 hx1 hx2 hx3 =>
  have o:it.word=⟨#[115,97,109,101]⟩:=h;rw [zpn] at d g l p;rw [zjQ] at r;rw [o,zme,d,g,r,zlL L j ⟨105,[⟨#[115,97,109,101]⟩,x1,x2,x3],i⟩ x1 x2 x3 rfl];have e:=(zax x1 hx1).1;have m:=(zax x2 hx2).1;simp only [za2 x1,za2 x2];obtain⟨s,t⟩:=hlab (by kernel_rfl);have u:f (labM F k x3)=ze9 L j x3:=s;exact⟨by simp only [zlY];rw [u],⟨e,m⟩,t,.inl (by kernel_rfl)⟩
 | back_  =>
  have o:it.word=⟨#[98,97,99,107]⟩:=h;rw [o,zi1,zlN L j ⟨105,[⟨#[98,97,99,107]⟩],i⟩  rfl];exact⟨rfl,trivial,trivial,.inr trivial⟩
 | stop_  =>
  have o:it.word=⟨#[115,116,111,112]⟩:=h;rw [o,zmf,zlO L j ⟨105,[⟨#[115,116,111,112]⟩],i⟩  rfl];exact⟨rfl,trivial,trivial,.inr trivial⟩
end
section
open Sp
def zfn(F:List FnM)(k:Nat)(l:List It):List (Ins × Int):=l.map (fun i=>(insM F k i,i.line))
def zcT(F:List FnM):Nat→List FnM→List (Ins × Int)
 | _,[]=>[]
 | k,f :: r=>zfn F k (zaq f.its)++zcT F (k+1) r
def zaw(F:List FnM):List (Ins × Int):=zcT F 0 F
theorem zmj(F:List FnM)(k:Nat)(R:List FnM):(zcT F k R).length=lenF R:=by
 induction R generalizing k with
 | nil=>rfl
 | cons f R ih=>rw [zeP,zcT,List.length_append,ih];simp [zfn]
theorem zeg(F:List FnM):(zaw F).length=lenF F:=zmj F 0 F
theorem zgn(F:List FnM)(n:Nat)(R:List FnM)(k:Nat)(f:FnM)(hk:R[k]?=some f)(m:Nat)(it:It)(hm:(zaq f.its)[m]?=some it):
  (zcT F n R)[lenF (R.take k)+m]?=some (insM F (n+k) it,it.line):=by
 induction R generalizing n k with
 | nil=>simp at hk
 | cons g R ih =>
  have a:(zfn F n (zaq g.its)).length=(zaq g.its).length:=by simp [zfn]
  cases k with
  | zero =>
   have e:g=f:=by simpa using hk
   subst e;have hlt:m<(zaq g.its).length:=(List.getElem?_eq_some_iff.1 hm).1;rw [zcT,List.take_zero,show lenF []+m=m by simp [lenF],List.getElem?_append_left (by omega)];unfold zfn;rw [List.getElem?_map,hm];rfl
  | succ k =>
   rw [List.getElem?_cons_succ] at hk;rw [zcT,List.take_succ_cons,zeP,List.getElem?_append_right (by omega),a];rw [show(zaq g.its).length+lenF (R.take k)+m-(zaq g.its).length=lenF (R.take k)+m by omega,ih (n+1) k hk];rw [show n+1+k=n+(k+1) by omega]
theorem zkF(R:List FnM)(p:Nat)(hp:p<lenF R):∃ k f m it,R[k]?=some f∧(zaq f.its)[m]?=some it∧p=lenF (R.take k)+m:=by
 induction R generalizing p with
 | nil=>simp [lenF] at hp
 | cons g R ih =>
  rw [zeP] at hp;by_cases h:p<(zaq g.its).length
  ·exact⟨0,g,p,(zaq g.its)[p],rfl,List.getElem?_eq_getElem h,by simp [lenF]⟩
  ·obtain⟨k,f,m,it,a,b,c⟩:=ih (p-(zaq g.its).length) (by omega);exact⟨k+1,f,m,it,by rw [List.getElem?_cons_succ];exact a,b,by rw [List.take_succ_cons,zeP];omega⟩
structure Right(L:List Said)(F:List FnM):Prop where
 good:Good L
 first:zar L 0=[]
 fns:F.map FnM.fn=zbc L 0
 some_:0<F.length
def zgP(C:List (Ins × Int))(z:Int):Int:=(C[z.toNat]?.map (·.2)).getD 0-1
theorem zpo{C:List (Ins × Int)}{p:Nat}{q:Ins × Int}(h:C[p]?=some q):zgP C (p:Int)=q.2-1:=by
 unfold zgP;rw [Int.toNat_natCast,h];rfl
theorem zwv(L:List Said)(o d:Nat)(ho:o<L.length)(h1:L[o].kind=102)(hd:o+d<L.length)(hno:NoFn L (o+1) (o+d)):zcw L (o+d)=(o:Int):=by
 induction d with
 | zero=>exact zfX L o ho h1
 | succ d ih =>
  rw [show o+(d+1)=o+d+1 by omega,zdY L (o+d) hd (hno _ hd (by omega) (Nat.le_refl _))];exact ih (by omega) (fun m hm a b=>hno m hm a (by omega))
theorem zww(L:List Said){o j:Nat}(ho:o<L.length)(h1:L[o].kind=102)(hoj:o≤j)(hj:j<L.length)(hno:NoFn L (o+1) j)(x:ByteArray):zcj L j x=zaY L x (o+1):=by
 obtain⟨d,rfl⟩:=Nat.exists_eq_add_of_le hoj;unfold zcj;rw [zwv L o d ho h1 hj hno];congr 1
theorem zwx{i:Ins}(h:Ends i)(h1:∀ to,i≠.jump to)(h2:i≠.back)(h3:i≠.stop):False:=by
 cases i <;> first|exact absurd rfl (h1 _)|exact h2 rfl|exact h3 rfl|exact h
namespace Right
variable {L:List Said} {F:List FnM}
theorem wf(R:Right L F):WfAll L:=fun q hq=>by
 obtain⟨k,hk,rfl⟩:=List.mem_iff_getElem.1 hq;exact R.good.wf k hk
theorem fn_at(R:Right L F){k:Nat}{f:FnM}(hk:F[k]?=some f):∃ o,∃ ho:o<L.length,L[o].kind=102∧f.line=(o:Int)+1∧f.its.map It.key=zar L (o+1)∧cnt L (o+1)=lenF (F.take k):=by
 obtain⟨o,ho,_,b,c,d,e⟩:=zpb L R.wf 0 [] (by rw [R.first];rfl) F R.fns k f hk;refine⟨o,ho,b,c,d,?_⟩;rw [zeN L o ho (by omega),e];simp [cnt,zaq]
theorem place(R:Right L F){k o:Nat}{f:FnM}(hk:F[k]?=some f)(hb:f.its.map It.key=zar L (o+1))(hc:cnt L (o+1)=lenF (F.take k)){j:Nat}(hj:j<L.length)(hoj:o+1≤j)(h5:L[j].kind=105)(hno:NoFn L (o+1) j):
  ∃ it,(zaw F)[cnt L j]?=some (insM F k it,it.line)∧it.key=keyQ L[j] ((j:Int)+1):=by
 obtain⟨it,a,b⟩:=ziz L R.wf (o+1) f.its hb j hj hoj h5 hno;refine⟨it,?_,b⟩;have:=zgn F 0 F k f hk _ it a;rw [←hc,Nat.zero_add] at this;have hle:=zoY L hoj;rw [show cnt L (o+1)+(cnt L j-cnt L (o+1))=cnt L j by omega] at this;exact this
theorem next(R:Right L F){k o:Nat}{f:FnM}(hk:F[k]?=some f)(hb:f.its.map It.key=zar L (o+1))(hc:cnt L (o+1)=lenF (F.take k)){i:Nat}(hoi:o+1≤i)(hno:NoFn L (o+1) (i-1))(hn:zdi L (zad L i)):
  cnt L i<(zaw F).length∧zgP (zaw F) (cnt L i:Int)=zad L i:=by
 obtain⟨j,hn,_,_⟩:=hn;obtain⟨g,hij,e,hcj,b⟩:=zoZ L i j hn;obtain⟨d,c,a⟩:=R.place hk hb hc g (by omega) e (hno.trans b (by omega));rw [hcj] at c;refine⟨(List.getElem?_eq_some_iff.1 c).1,?_⟩;rw [zpo c,hn];have:d.line=(j:Int)+1:=congrArg Key.line a;show d.line-1=_;omega
theorem label(R:Right L F){k o:Nat}{f:FnM}(hk:F[k]?=some f)(hb:f.its.map It.key=zar L (o+1))(hc:cnt L (o+1)=lenF (F.take k)){x:ByteArray}(hx:0≤zaY L x (o+1)):
  ∃ p:Nat,zcb (zc7 f.its) x=some p∧labM F k x=((lenF (F.take k)+p:Nat):Int)∧lenF (F.take k)+p<(zaw F).length∧zgP (zaw F) (labM F k x)=zad L (zaY L x (o+1)).toNat:=by
 obtain⟨j,d⟩:=Int.eq_ofNat_of_zero_le hx;obtain⟨a,i,c,n,e⟩:=zh8 L R.wf x (o+1) f.its hb 0 j d;rw [Nat.zero_add] at a;have hle:=zoY L c;have q:labM F k x=((lenF (F.take k)+(cnt L j-cnt L (o+1)):Nat):Int):=by
  unfold labM;rw [hk];show(lenF (F.take k):Int)+(((zcb (zc7 f.its) x).getD 0:Nat):Int)=_;rw [a];simp
 have h:lenF (F.take k)+(cnt L j-cnt L (o+1))=cnt L j:=by omega
 obtain⟨g,l⟩:=R.next hk hb hc c (fun m hm a b=>e m hm a (by omega)) (R.good.lab j i n);refine⟨_,a,q,by rw [h];exact g,?_⟩;rw [q,h,l,d];rfl
theorem function(R:Right L F){x:ByteArray}(hx:0≤zaN L x 0):
  ∃ k,∃ _:k<F.length,zcb (zb3 F) x=some k∧fnM F x=(lenF (F.take k):Int)∧lenF (F.take k)<(zaw F).length∧zgP (zaw F) (fnM F x)=fnTo L x:=by
 obtain⟨o,h⟩:=Int.eq_ofNat_of_zero_le hx;obtain⟨k,f,d,c,hline⟩:=zkE L x 0 F R.fns 0 o h;rw [Nat.zero_add] at c;obtain⟨j,l,p,hl',q,g⟩:=R.fn_at d;have e:j=o:=by omega
 subst e;have i:fnM F x=(lenF (F.take k):Int):=by unfold fnM;rw [c];rfl
 obtain⟨n,r⟩:=R.next d q g (Nat.le_refl _) (fun m i a b=>by omega) (R.good.fn j l p);refine⟨k,(List.getElem?_eq_some_iff.1 d).1,c,i,by rw [←g];exact n,?_⟩;rw [i,←g,r];unfold fnTo;rw [h];congr 1
theorem asks_l(R:Right L F){j:Nat}(hj:j<L.length)(h5:L[j].kind=105)(ha:zaJ (L[j].word 0)=true):0≤zcj L j L[j].last:=by
 have:=R.good.miss j hj;unfold zaK at this;rw [List.getElem?_eq_getElem hj] at this;simp only [h5,if_true,ha] at this;simpa using this
theorem asks_f(R:Right L F){j:Nat}(hj:j<L.length)(h5:L[j].kind=105)(ha:zc2 (L[j].word 0)=true):0≤zaN L L[j].last 0:=by
 have:=R.good.miss j hj;have a:zaJ (L[j].word 0)=false:=by
  cases h:zaJ (L[j].word 0) with
  | false=>rfl
  | true=>rw [zin _ h] at ha;cases ha
 unfold zaK at this;rw [List.getElem?_eq_getElem hj] at this;simp only [h5,if_true,ha,a] at this;simpa using this
theorem it_at(R:Right L F){k m:Nat}{f:FnM}{it:It}(hk:F[k]?=some f)(hm:(zaq f.its)[m]?=some it):
  ∃ j,∃ hj:j<L.length,L[j].kind=105∧it.key=keyQ L[j] ((j:Int)+1)∧lenF (F.take k)+m=cnt L j ∧
   (zaJ (L[j].word 0)=true→∃ p:Nat,zcb (zc7 f.its) L[j].last=some p∧labM F k L[j].last=((lenF (F.take k)+p:Nat):Int)∧lenF (F.take k)+p<(zaw F).length∧zgP (zaw F) (labM F k L[j].last)=ze9 L j L[j].last) ∧
   (zc2 (L[j].word 0)=true→∃ k2,∃ _:k2<F.length,zcb (zb3 F) L[j].last=some k2∧fnM F L[j].last=(lenF (F.take k2):Int)∧lenF (F.take k2)<(zaw F).length∧zgP (zaw F) (fnM F L[j].last)=fnTo L L[j].last) ∧
   (ends (L[j].word 0)=false→cnt L j+1<(zaw F).length∧zgP (zaw F) ((cnt L j+1:Nat):Int)=zad L (j+1)):=by
 obtain⟨o,t,u,_,l,r⟩:=R.fn_at hk;obtain⟨j,hj,hoj,i,g,hcj,h⟩:=zh7 L R.wf (o+1) f.its l m it hm;refine⟨j,hj,i,g,by omega,fun ha=>?_,fun ha=>R.function (R.asks_f hj i ha),fun he=>?_⟩
 ·have q:=R.asks_l hj i ha;have e:=zww L t u (by omega) hj h L[j].last;rw [e] at q;obtain⟨p,a,b,c,d⟩:=R.label hk l r q;exact⟨p,a,b,c,by rw [d];unfold ze9;rw [e]⟩
 ·have v:=R.good.next j hj i he;obtain⟨n,s⟩:=R.next hk l r (show o+1≤j+1 by omega) (by simpa using h) v;rw [ziy L j hj i] at n s;exact⟨n,s⟩
theorem at_(R:Right L F){p:Nat}(hp:p<(zaw F).length):
  ∃ k it j,∃ hj:j<L.length,(zaw F)[p]?=some (insM F k it,it.line)∧it.line=(j:Int)+1∧insQ L j L[j]=zlY (zgP (zaw F)) (insM F k it)∧zhw (insM F k it)∧Goes (zaw F).length (insM F k it) ∧
   (Ends (insM F k it)∨(p+1<(zaw F).length∧zad L (j+1)=zgP (zaw F) ((p:Int)+1))):=by
 rw [zeg] at hp;obtain⟨k,f,m,it,r,t,e⟩:=zkF F p hp;have h:=zgn F 0 F k f r m it t;rw [Nat.zero_add,←e] at h;obtain⟨j,hj,s,g,hpl,i,q,n⟩:=R.it_at r t;obtain⟨u,v,w,l⟩:=zwu L[j] s (R.good.form j hj s) it _ g F k L j (zaw F).length (zgP (zaw F))
  (fun ha=>by obtain⟨p',_,b,c,d⟩:=i ha;exact⟨d,_,b,c⟩) (fun ha=>by obtain⟨k2,_,_,b,c,d⟩:=q ha;exact⟨d,_,b,c⟩)
 refine⟨k,it,j,hj,h,congrArg Key.line g,u,v,w,?_⟩;rcases l with l|l
 ·obtain⟨a,b⟩:=n l;have o:p=cnt L j:=by omega
  exact .inr ⟨by omega,by rw [←b,o];rfl⟩
 ·exact .inl l
theorem sim(R:Right L F):SimOk L (zaw F) (zgP (zaw F)):=⟨fun p hp=>by
 obtain⟨k,it,j,hj,hput,hl,hq,_,_,hn⟩:=R.at_ hp;have e:(zaw F)[p]=(insM F k it,it.line):=(List.getElem?_eq_some_iff.1 hput).2;refine⟨j,by rw [zpo hput];show it.line-1=_;omega,hj,by rw [e];exact hq,by rw [e];exact hl,?_⟩;rw [e];intro _ _ h1 h2 h3;rcases hn with hn|hn
 ·exact(zwx hn h1 h2 h3).elim
 ·exact hn.2⟩
theorem codeOk(R:Right L F):CodeOk (zaw F):=by
 refine⟨?_,?_,fun p hp=>?_,fun p hp=>?_⟩
 ·obtain⟨f,s⟩:∃ f,F[0]?=some f:=⟨F[0]'R.some_,List.getElem?_eq_getElem R.some_⟩
  obtain⟨o,t,w,_,y,x⟩:=R.fn_at s;exact Nat.lt_of_le_of_lt (Nat.zero_le _) (R.next s y x (Nat.le_refl _) (fun m q a b=>by omega) (R.good.fn o t w)).1
 ·by_cases h:0<(zaw F).length
  ·obtain⟨k,f,m,d,v,q,e⟩:=zkF F ((zaw F).length-1) (by rw [←zeg];omega);obtain⟨j,r,_,_,hpl,_⟩:=R.it_at v q;have:=zyv L j;have:=R.good.few;omega
  ·omega
 ·obtain⟨k,d,j,r,c,z,u,n,_⟩:=R.at_ hp;have e:(zaw F)[p]=(insM F k d,d.line):=(List.getElem?_eq_some_iff.1 c).2;rw [e];exact n
 ·obtain⟨k,d,j,r,c,z,u,n,l,g⟩:=R.at_ hp;have e:(zaw F)[p]=(insM F k d,d.line):=(List.getElem?_eq_some_iff.1 c).2;rw [e];show ztq _ _ (insM F k d)
  revert g l
  generalize insM F k d=i;intro l g;cases i <;> first|trivial|exact l|(rcases g with g|g;exact False.elim g;first|exact g.1|exact⟨l,g.1⟩)
end Right
theorem zpp(L:List Said)(i:Nat)(f:Fn)(r:List Fn)(h:zbc L i=f :: r):f.line=(zcD L i:Int)+1:=by
 by_cases a:i<L.length
 ·by_cases b:L[i].kind=102
  ·rw [zcs L i a b] at h;rw [zcD,dif_pos a,if_pos b];injection h with h _
   rw [←h]
  ·rw [zce L i a b] at h;rw [zcD,dif_pos a,if_neg b];exact zpp L (i+1) f r h
 ·rw [zdh L i a] at h;cases h
termination_by L.length-i
theorem Right.begin{L:List Said}{F:List FnM}(R:Right L F)(inp:List Int):zc3 L inp=lift (zgP (zaw F)) (zb0 inp):=by
 obtain⟨f,c⟩:∃ f,F[0]?=some f:=⟨F[0]'R.some_,List.getElem?_eq_getElem R.some_⟩
 obtain⟨o,i,j,hl,l,k⟩:=R.fn_at c;obtain⟨q1,h⟩:=R.next c l k (Nat.le_refl _) (fun m hm a b=>by omega) (R.good.fn o i j);have d:=R.fns;cases F with
 | nil=>simp at c
 | cons g r =>
  have e:g=f:=by simpa using c
  subst e;have h2:=zpp L 0 g.fn (r.map FnM.fn) (by rw [←d];rfl);have h3:zcD L 0=o:=by
   have:g.fn.line=g.line:=rfl;omega
  rw [k] at h;unfold zc3;rw [h3,←h];rfl
end
section
open Go.RowKit Sp
structure PlIn(W:World)(F:List FnM)(bo pm bg:Nat):Prop where
 maps:∀ f∈F,MapIs W f.m (zc7 f.its)
 places:MapIs W pm (zb3 F)
 begs:∀ k,k<F.length→W.cell? ⟨bg,k,none⟩=some (.int .i64 (lenF (F.take k):Int))
 labs:∀ k (h:k<F.length),W.cell? ⟨bo,k*4+3,none⟩=some (.map (some F[k].m))
theorem PlIn.below{W W':World}{F:List FnM}{bo pm bg B:Nat}(h:PlIn W F bo pm bg)(hb:Below B W W')(hB:W.heap.size≤B):PlIn W' F bo pm bg :=
 ⟨fun f hf=>(h.maps f hf).below hb (Nat.lt_of_lt_of_le (h.maps f hf).lt hB),h.places.below hb (Nat.lt_of_lt_of_le h.places.lt hB),
  fun k hk=>(hb.cell (p:=⟨bg,k,none⟩) (Nat.lt_of_lt_of_le (World.block_lt_of_cell? W _ (h.begs k hk)) hB)).trans (h.begs k hk),
  fun k hk=>(hb.cell (p:=⟨bo,k*4+3,none⟩) (Nat.lt_of_lt_of_le (World.block_lt_of_cell? W _ (h.labs k hk)) hB)).trans (h.labs k hk)⟩
theorem zmk(F:List FnM)(k:Nat):lenF (F.take k)≤lenF F:=by
 unfold lenF
 conv=>rhs;rw [←List.take_append_drop k F,List.map_append,List.sum_append]
 omega
theorem za3(x:ByteArray):((zaH x).toNat:Int)=zaH x:=by
 unfold zaH;split
 ·omega
 ·rfl
abbrev zi2(bo cv pm bg cap n:Nat):Value:=.agg #[.slice (some ⟨bo,0,none⟩) n cv,.map (some pm),.slice (some ⟨bg,0,none⟩) n cap]
theorem zqZ{L:List Said}{F:List FnM}(R:Right L F)(w:World){bo pm bg:Nat}(cv cap:Nat)(M:PlIn w F bo pm bg)(hn:F.length≤300){k m:Nat}{f:FnM}{it:It}(hk:F[k]?=some f)(hm:(zaq f.its)[m]?=some it)(hsz:it.nm.size≤1048576):
  qC 81 #[zi2 bo cv pm bg cap F.length,stm it.sort it.line it.word it.a it.b it.c it.n it.nm,.int .i64 (k:Int)] w (qR w (.iface (insT (insM F k it)) (.agg (insA (insM F k it))))):=by
 have y:k<F.length:=(List.getElem?_eq_some_iff.1 hk).1;have hfk:F[k]=f:=(List.getElem?_eq_some_iff.1 hk).2;obtain⟨j,T,I,h,_,x,D,_⟩:=R.it_at hk hm;have O:=R.good.form j T I;have hfew:=R.codeOk.few;have i:it.word=zeH L[j]:=congrArg Key.word h;have t:it.a=(opQ L[j]).a:=congrArg Key.a h;have u:it.b=(opQ L[j]).b:=congrArg Key.b h;have s:it.c=(opQ L[j]).c:=congrArg Key.c h;have v:it.nm=zdP L[j]:=congrArg Key.nm h;have H:zaJ (L[j].word 0)=true→it.nm=L[j].last→∀ W,qB w W→qC 108 #[zi2 bo cv pm bg cap F.length,.string it.nm,.int .i64 (k:Int)] W (qR W (.int .i64 (labM F k it.nm))):=by
  intro P N W J;obtain⟨p,G,z,K,_⟩:=x P;rw [←N] at G z;have A:=M.below J (Nat.le_refl _);have B:=A.labs k y;rw [hfk] at B;have:=zqW W pm bg k (lenF (F.take k)) p bo cv cap F it.nm f.m (zc7 f.its) (A.maps f (List.mem_of_getElem? hk)) hsz G (by omega) y hn (by omega) (A.begs k y) B;rw [z];refine this.mono ?_;rintro e l ⟨rfl,d⟩;exact⟨by simp,d⟩
 have S:zc2 (L[j].word 0)=true→it.nm=L[j].last→∀ W,qB w W→qC 109 #[zi2 bo cv pm bg cap F.length,.string it.nm] W (qR W (.int .i64 (fnM F it.nm))):=by
  intro P N W J;obtain⟨Q,C,G,z,K,_⟩:=D P;rw [←N] at G z;have A:=M.below J (Nat.le_refl _);rw [z];exact zkC W pm bg Q _ F cap it.nm A.places hsz G C hn (A.begs Q C) bo cv rfl
 clear x D h;generalize L[j]=q at I O i t u s v H S;obtain⟨kd,kp,ok⟩:=q;simp only at I O;subst I;unfold insM;cases O with
 | set_ x1 x2 =>
  have o:it.word=⟨#[115,101,116]⟩:=i;rw [ztD] at t u s;have g:(it.a.toNat:Int)=it.a:=by rw [t];exact za3 _
  rw [o,zpe];refine(zwm w (some ⟨bo,0,none⟩) (some ⟨bg,0,none⟩) F.length cv F.length cap pm it.sort it.line it.a it.b it.c it.n (k:Int) it.nm).mono ?_;rintro e l ⟨rfl,d⟩;exact⟨by simp [insT,insA,g],d⟩
 | inc_ x1 x2 =>
  have o:it.word=⟨#[105,110,99]⟩:=i;rw [ztE] at t u s;have g:(it.a.toNat:Int)=it.a:=by rw [t];exact za3 _
  rw [o,zpf];refine(zwr w (some ⟨bo,0,none⟩) (some ⟨bg,0,none⟩) F.length cv F.length cap pm it.sort it.line it.a it.b it.c it.n (k:Int) it.nm).mono ?_;rintro e l ⟨rfl,d⟩;exact⟨by simp [insT,insA,g],d⟩
 | mov_ x1 x2 =>
  have o:it.word=⟨#[109,111,118]⟩:=i;rw [ztF] at t u s;have g:(it.a.toNat:Int)=it.a:=by rw [t];exact za3 _
  have r:(it.b.toNat:Int)=it.b:=by rw [u];exact za3 _
  rw [o,zpg];refine(zwn w (some ⟨bo,0,none⟩) (some ⟨bg,0,none⟩) F.length cv F.length cap pm it.sort it.line it.a it.b it.c it.n (k:Int) it.nm).mono ?_;rintro e l ⟨rfl,d⟩;exact⟨by simp [insT,insA,g,r],d⟩
 | load_ x1 x2 =>
  have o:it.word=⟨#[108,111,97,100]⟩:=i;rw [zpk] at t u s;have g:(it.a.toNat:Int)=it.a:=by rw [t];exact za3 _
  have r:(it.b.toNat:Int)=it.b:=by rw [u];exact za3 _
  rw [o,zlZ];refine(zt8 w (some ⟨bo,0,none⟩) (some ⟨bg,0,none⟩) F.length cv F.length cap pm it.sort it.line it.a it.b it.c it.n (k:Int) it.nm).mono ?_;rintro e l ⟨rfl,d⟩;exact⟨by simp [insT,insA,g,r],d⟩
 | store_ x1 x2 =>
  have o:it.word=⟨#[115,116,111,114,101]⟩:=i;rw [zmg] at t u s;have g:(it.a.toNat:Int)=it.a:=by rw [t];exact za3 _
  have r:(it.b.toNat:Int)=it.b:=by rw [u];exact za3 _
  rw [o,zjL];refine(zqX w (some ⟨bo,0,none⟩) (some ⟨bg,0,none⟩) F.length cv F.length cap pm it.sort it.line it.a it.b it.c it.n (k:Int) it.nm).mono ?_;rintro e l ⟨rfl,d⟩;exact⟨by simp [insT,insA,g,r],d⟩
 | add_ x1 x2 x3 =>
  have o:it.word=⟨#[97,100,100]⟩:=i;rw [ztG] at t u s;have g:(it.a.toNat:Int)=it.a:=by rw [t];exact za3 _
  have r:(it.b.toNat:Int)=it.b:=by rw [u];exact za3 _
  have E:(it.c.toNat:Int)=it.c:=by rw [s];exact za3 _
  rw [o,zph];refine(zwo w (some ⟨bo,0,none⟩) (some ⟨bg,0,none⟩) F.length cv F.length cap pm it.sort it.line it.a it.b it.c it.n (k:Int) it.nm).mono ?_;rintro e l ⟨rfl,d⟩;exact⟨by simp [insT,insA,g,r,E],d⟩
 | sub_ x1 x2 x3 =>
  have o:it.word=⟨#[115,117,98]⟩:=i;rw [ztH] at t u s;have g:(it.a.toNat:Int)=it.a:=by rw [t];exact za3 _
  have r:(it.b.toNat:Int)=it.b:=by rw [u];exact za3 _
  have E:(it.c.toNat:Int)=it.c:=by rw [s];exact za3 _
  rw [o,zpi];refine(zwp w (some ⟨bo,0,none⟩) (some ⟨bg,0,none⟩) F.length cv F.length cap pm it.sort it.line it.a it.b it.c it.n (k:Int) it.nm).mono ?_;rintro e l ⟨rfl,d⟩;exact⟨by simp [insT,insA,g,r,E],d⟩
 | mul_ x1 x2 x3 =>
  have o:it.word=⟨#[109,117,108]⟩:=i;rw [ztI] at t u s;have g:(it.a.toNat:Int)=it.a:=by rw [t];exact za3 _
  have r:(it.b.toNat:Int)=it.b:=by rw [u];exact za3 _
  have E:(it.c.toNat:Int)=it.c:=by rw [s];exact za3 _
  rw [o,zpj];refine(zwq w (some ⟨bo,0,none⟩) (some ⟨bg,0,none⟩) F.length cv F.length cap pm it.sort it.line it.a it.b it.c it.n (k:Int) it.nm).mono ?_;rintro e l ⟨rfl,d⟩;exact⟨by simp [insT,insA,g,r,E],d⟩
 | read_ x1 =>
  have o:it.word=⟨#[114,101,97,100]⟩:=i;rw [zpl] at t u s;have g:(it.a.toNat:Int)=it.a:=by rw [t];exact za3 _
  rw [o,zma];refine(zt9 w (some ⟨bo,0,none⟩) (some ⟨bg,0,none⟩) F.length cv F.length cap pm it.sort it.line it.a it.b it.c it.n (k:Int) it.nm).mono ?_;rintro e l ⟨rfl,d⟩;exact⟨by simp [insT,insA,g],d⟩
 | write_ x1 =>
  have o:it.word=⟨#[119,114,105,116,101]⟩:=i;rw [zmh] at t u s;have g:(it.a.toNat:Int)=it.a:=by rw [t];exact za3 _
  rw [o,zjM];refine(zqY w (some ⟨bo,0,none⟩) (some ⟨bg,0,none⟩) F.length cv F.length cap pm it.sort it.line it.a it.b it.c it.n (k:Int) it.nm).mono ?_;rintro e l ⟨rfl,d⟩;exact⟨by simp [insT,insA,g],d⟩
 | jump_ x1 =>
  have o:it.word=⟨#[106,117,109,112]⟩:=i;rw [zjN] at v;rw [o,zmb];refine(ztJ w (some ⟨bo,0,none⟩) (some ⟨bg,0,none⟩) F.length cv F.length cap pm it.sort it.line it.a it.b it.c it.n (k:Int) (labM F k it.nm) it.nm (H (by kernel_rfl) v)).mono ?_;rintro e l ⟨rfl,d⟩;exact⟨by simp [insT,insA],d⟩
 | call_ x1 =>
  have o:it.word=⟨#[99,97,108,108]⟩:=i;rw [zjO] at v;rw [o,zmc];refine(ztK w (some ⟨bo,0,none⟩) (some ⟨bg,0,none⟩) F.length cv F.length cap pm it.sort it.line it.a it.b it.c it.n (k:Int) (fnM F it.nm) it.nm (S (by kernel_rfl) v)).mono ?_;rintro e l ⟨rfl,d⟩;exact⟨by simp [insT,insA],d⟩
 | less_ x1 x2 x3 =>
  have o:it.word=⟨#[108,101,115,115]⟩:=i;rw [zpm] at t u s;have g:(it.a.toNat:Int)=it.a:=by rw [t];exact za3 _
  have r:(it.b.toNat:Int)=it.b:=by rw [u];exact za3 _
  rw [zjP] at v;rw [o,zmd];refine(ztL w (some ⟨bo,0,none⟩) (some ⟨bg,0,none⟩) F.length cv F.length cap pm it.sort it.line it.a it.b it.c it.n (k:Int) (labM F k it.nm) it.nm (H (by kernel_rfl) v)).mono ?_;rintro e l ⟨rfl,d⟩;exact⟨by simp [insT,insA,g,r],d⟩
 | same_ x1 x2 x3 =>
  have o:it.word=⟨#[115,97,109,101]⟩:=i;rw [zpn] at t u s;have g:(it.a.toNat:Int)=it.a:=by rw [t];exact za3 _
  have r:(it.b.toNat:Int)=it.b:=by rw [u];exact za3 _
  rw [zjQ] at v;rw [o,zme];refine(ztM w (some ⟨bo,0,none⟩) (some ⟨bg,0,none⟩) F.length cv F.length cap pm it.sort it.line it.a it.b it.c it.n (k:Int) (labM F k it.nm) it.nm (H (by kernel_rfl) v)).mono ?_;rintro e l ⟨rfl,d⟩;exact⟨by simp [insT,insA,g,r],d⟩
 | back_  =>
  have o:it.word=⟨#[98,97,99,107]⟩:=i;rw [o,zi1];refine(ztA w (some ⟨bo,0,none⟩) (some ⟨bg,0,none⟩) F.length cv F.length cap pm it.sort it.line it.a it.b it.c it.n (k:Int) it.nm).mono ?_;rintro e l ⟨rfl,d⟩;exact⟨by simp [insT,insA],d⟩
 | stop_  =>
  have o:it.word=⟨#[115,116,111,112]⟩:=i;rw [o,zmf];refine(ztB w (some ⟨bo,0,none⟩) (some ⟨bg,0,none⟩) F.length cv F.length cap pm it.sort it.line it.a it.b it.c it.n (k:Int) it.nm).mono ?_;rintro e l ⟨rfl,d⟩;exact⟨by simp [insT,insA],d⟩
end
end Go.Proofs.YtfpgjkbjbbgciaaGreatDoor
