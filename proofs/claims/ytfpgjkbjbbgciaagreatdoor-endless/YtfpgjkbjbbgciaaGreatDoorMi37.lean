import Derived.Test.YtfpgjkbjbbgciaaGreatDoorMi31
import Derived.Test.YtfpgjkbjbbgciaaGreatDoorMi36
set_option maxRecDepth 100000
set_option maxHeartbeats 8000000
namespace Go.Proofs.YtfpgjkbjbbgciaaGreatDoor
section
open Go.RowKit Sp
def zl7(f:Int→Int):Ins→Ins
 | .jump to=>.jump (f to)
 | .less r s to=>.less r s (f to)
 | .same r s to=>.same r s (f to)
 | .call to=>.call (f to)
 | i=>i
def lift(f:Int→Int)(m:Mc):Mc:={ m with at':=if m.fin=1∨m.fin=2 then -1 else f m.at',backs:=m.backs.map f }
structure SimOk(L:List Said)(C:List (Ins × Int))(f:Int→Int):Prop where
 line:∀ p (h:p<C.length),∃ k:Nat,f (p:Int)=(k:Int)∧∃ hk:k<L.length,insQ L k L[k]=zl7 f C[p].1∧C[p].2=(k:Int)+1∧(p+1<C.length→zsB C.length p C[p].1→(∀ to,C[p].1≠.jump to)→C[p].1≠.back→C[p].1≠.stop→zau L (k+1)=f ((p:Int)+1))
theorem zf2{f:Int→Int}{m:Mc}(h:¬(m.fin=1∨m.fin=2)):lift f m={ m with at':=f m.at',backs:=m.backs.map f }:=by unfold lift;rw [if_neg h]
theorem zoW{f:Int→Int}{m:Mc}(h:m.fin=1∨m.fin=2):lift f m={ m with at':=-1,backs:=m.backs.map f }:=by unfold lift;rw [if_pos h]
theorem zby{f:Int→Int}{m1:Mc}{z:Int}(h:m1.fin=0):lift f (m1.goes z)={ m1 with backs:=m1.backs.map f }.goes (f z):=by
 rw [zf2 (by show ¬(m1.fin=1∨m1.fin=2);omega)];rfl
theorem zsS{N:Nat}{f:Int→Int}{m:Mc}{i:Ins}{next:Int}(I:InvD N m)(hfin:m.fin=0)(hnext:(∀ to,i≠.jump to)→i≠.back→i≠.stop→next=f (m.at'+1)):
  exec (zl7 f i) next (lift f m)=lift f (zaN i m):=by
 have hl:lift f m={ m with at':=f m.at',backs:=m.backs.map f }:=zf2 (by omega)
 have hf:=I.frames
 rw [if_neg (by omega)] at hf
 rw [hl]
 cases i with
 | set r k =>
  rw [zag (.inl rfl) hfin,hnext (by simp) (by simp) (by simp),show exec (.set r k) (m.at'+1) m=Mc.goes { m with regs:=upd m.regs r k } (m.at'+1) from rfl,zby]
  ·rfl
  ·exact hfin
 | mov r s =>
  rw [zag (.inl rfl) hfin,hnext (by simp) (by simp) (by simp),show exec (.mov r s) (m.at'+1) m=Mc.goes { m with regs:=upd m.regs r (m.regs s) } (m.at'+1) from rfl,zby]
  ·rfl
  ·exact hfin
 | alu o r s t =>
  rw [zag (.inl rfl) hfin,hnext (by simp) (by simp) (by simp),show exec (.alu o r s t) (m.at'+1) m=Mc.goes { m with regs:=upd m.regs r (zc1 o (m.regs s) (m.regs t)) } (m.at'+1) from rfl,zby]
  ·rfl
  ·exact hfin
 | inc r k =>
  rw [zag (.inl rfl) hfin,hnext (by simp) (by simp) (by simp),show exec (.inc r k) (m.at'+1) m=Mc.goes { m with regs:=upd m.regs r (w64 (m.regs r+k)) } (m.at'+1) from rfl,zby]
  ·rfl
  ·exact hfin
 | read r =>
  rw [zag (.inl rfl) hfin,hnext (by simp) (by simp) (by simp),show exec (.read r) (m.at'+1) m=Mc.goes { m with regs:=upd m.regs r (m.inp.headD 0),inp:=m.inp.tail } (m.at'+1) from rfl,zby]
  ·rfl
  ·exact hfin
 | write r =>
  rw [zag (.inl rfl) hfin,hnext (by simp) (by simp) (by simp),show exec (.write r) (m.at'+1) m=Mc.goes { m with out:=m.out++[m.regs r] } (m.at'+1) from rfl,zby]
  ·rfl
  ·exact hfin
 | load r s =>
  by_cases hn:m.regs s<0∨15<m.regs s
  ·have e1:exec (.load r s) (m.at'+1) m={ m with fin:=3 }:=if_pos hn
   rw [zag (.inr (by rw [e1];show(2:Int)<3;decide)) hfin,e1,zf2 (by show ¬((3:Int)=1∨(3:Int)=2);decide)]
   exact if_pos hn
  ·have e1:exec (.load r s) (m.at'+1) m={ m with regs:=upd m.regs r (m.cells (m.regs s).toNat) }.goes (m.at'+1):=if_neg hn
   rw [zag (.inl (by rw [e1];rfl)) hfin,e1,zby,hnext (by simp) (by simp) (by simp)]
   exact if_neg hn
   exact hfin
 | store r s =>
  by_cases hn:m.regs r<0∨15<m.regs r
  ·have e1:exec (.store r s) (m.at'+1) m={ m with fin:=3 }:=if_pos hn
   rw [zag (.inr (by rw [e1];show(2:Int)<3;decide)) hfin,e1,zf2 (by show ¬((3:Int)=1∨(3:Int)=2);decide)]
   exact if_pos hn
  ·have e1:exec (.store r s) (m.at'+1) m={ m with cells:=upd m.cells (m.regs r).toNat (m.regs s) }.goes (m.at'+1):=if_neg hn
   rw [zag (.inl (by rw [e1];rfl)) hfin,e1,zby,hnext (by simp) (by simp) (by simp)]
   exact if_neg hn
   exact hfin
 | jump to =>
  rw [zag (.inl rfl) hfin,show exec (.jump to) (m.at'+1) m=Mc.goes m to from rfl,zby]
  ·rfl
  ·exact hfin
 | less r s to =>
  rw [zag (.inl rfl) hfin,hnext (by simp) (by simp) (by simp),show exec (.less r s to) (m.at'+1) m=m.goes (if m.regs r<m.regs s then to else m.at'+1) from rfl,zby,apply_ite f]
  rfl
  exact hfin
 | same r s to =>
  rw [zag (.inl rfl) hfin,hnext (by simp) (by simp) (by simp),show exec (.same r s to) (m.at'+1) m=m.goes (if m.regs r=m.regs s then to else m.at'+1) from rfl,zby,apply_ite f]
  rfl
  exact hfin
 | call to =>
  by_cases h16:m.frames=16
  ·have e1:exec (.call to) (m.at'+1) m={ m with fin:=4 }:=if_pos h16
   rw [zag (.inr (by rw [e1];show(2:Int)<4;decide)) hfin,e1,zf2 (by show ¬((4:Int)=1∨(4:Int)=2);decide)]
   exact if_pos h16
  ·have e1:exec (.call to) (m.at'+1) m={ m with backs:=m.backs++[m.at'+1],frames:=m.frames+1,peak:=max m.peak (m.frames+1) }.goes to:=if_neg h16
   rw [zag (.inl (by rw [e1];rfl)) hfin,e1,zby,hnext (by simp) (by simp) (by simp)]
   refine(if_neg h16).trans ?_
   simp [Mc.goes]
   exact hfin
 | back =>
  by_cases h1:m.frames=1
  ·have e0:exec .back (m.at'+1) m={ m with frames:=0,fin:=2 }.goes (-1):=if_pos h1
   have e1:zaN .back m={ m with steps:=m.steps+1,frames:=0,fin:=2 }:=by
    unfold zaN;rw [e0,if_pos (.inr rfl)];rfl
   rw [e1,zoW (.inr rfl)]
   exact if_pos h1
  ·have e0:exec .back (m.at'+1) m={ m with frames:=m.frames-1,backs:=m.backs.dropLast }.goes (m.backs.getLastD 0):=if_neg h1
   obtain⟨J,x,hJ⟩:∃ I x,m.backs=I++[x]:=by
    rcases List.eq_nil_or_concat m.backs with h|⟨I,x,h⟩
    ·rw [h] at hf;simp at hf;omega
    ·exact⟨I,x,by rw [h,List.concat_eq_append]⟩
   rw [zag (.inl (by rw [e0];rfl)) hfin,e0,zby]
   refine(if_neg h1).trans ?_
   simp [Mc.goes,hJ]
   exact hfin
 | stop =>
  have e1:zaN .stop m={ m with steps:=m.steps+1,fin:=1 }:=by
   unfold zaN;rw [show exec .stop (m.at'+1) m={ m with fin:=1 }.goes (-1) from rfl,if_pos (.inl rfl)];rfl
  rw [e1,zoW (.inl rfl)]
  rfl
theorem zvU{L:List Said}{C:List (Ins × Int)}{f:Int→Int}{m:Mc}(S:SimOk L C f)(K:CodeOk C)(I:InvD C.length m)(hfin:m.fin=0):zc9 L (lift f m)=lift f (zc0 C m):=by
 obtain⟨p,hp,hlt⟩:=I.at_
 obtain⟨k,hk,hkl,hq,_,hn⟩:=S.line p hlt
 have hl:(lift f m).at'=(k:Int):=by rw [zf2 (by omega)];show f m.at'=_;rw [hp,hk]
 rw [zhy hp hlt]
 unfold zc9
 rw [hl,Int.toNat_natCast,List.getElem?_eq_getElem hkl]
 show exec (insQ L k L[k]) (zau L (k+1)) (lift f m)=_
 rw [hq]
 refine zsS I hfin (fun h1 h2 h3=>?_)
 have hle:=K.leads p hlt
 have hp1:p+1<C.length:=by
  revert hle h1 h2 h3
  generalize C[p].1=i
  intro h1 h2 h3 hle
  cases i with
  | jump to=>exact absurd rfl (h1 to)
  | back=>exact absurd rfl h2
  | stop=>exact absurd rfl h3
  | less r s to=>exact hle.2
  | same r s to=>exact hle.2
  | call to=>exact hle.2
  | _=>exact hle
 rw [hn hp1 hle h1 h2 h3,hp]
theorem zsT{L:List Said}{C:List (Ins × Int)}{f:Int→Int}(S:SimOk L C f)(K:CodeOk C)(n:Nat):∀{m:Mc},InvD C.length m→runS (zc9 L) n (lift f m)=lift f (runS (zc0 C) n m)∧InvD C.length (runS (zc0 C) n m):=by
 induction n with
 | zero=>intro m I;exact⟨rfl,I⟩
 | succ n ih =>
  intro m I
  have hlf:(lift f m).fin=m.fin:=rfl
  by_cases h:m.fin=0
  ·rw [zbO _ _ _ h,zbO _ _ _ (by rw [hlf];exact h),zvU S K I h]
   obtain⟨p,hp,hlt⟩:=I.at_
   refine ih ?_
   rw [zhy hp hlt]
   exact I.step h hp (K.leads p hlt)
  ·rw [zcl _ _ _ h,zcl _ _ _ (by rw [hlf];exact h)]
   exact⟨rfl,I⟩
theorem zvV{L:List Said}{C:List (Ins × Int)}{f:Int→Int}{m:Mc}(S:SimOk L C f)(I:InvD C.length m):(lift f m).line=zho C m:=by
 obtain⟨p,hp,hlt⟩:=I.at_
 obtain⟨k,hk,hkl,_,h2,_⟩:=S.line p hlt
 have hlf:(lift f m).fin=m.fin:=rfl
 unfold Mc.line zho
 rw [hlf]
 by_cases h:m.fin=1∨m.fin=2
 ·rw [if_pos h,if_pos h]
 ·rw [if_neg h,if_neg h,zf2 h,hp,Int.toNat_natCast,List.getElem?_eq_getElem hlt]
  show f (p:Int)+1=C[p].2
  rw [hk,h2]
end
section
open Sp
def labM(F:List FnM)(k:Nat)(x:ByteArray):Int:=(lenF (F.take k):Int)+(((match F[k]? with|none=>none|some f=>zbB (zcm f.its) x).getD 0:Nat):Int)
def fnM(F:List FnM)(x:ByteArray):Int:=(lenF (F.take ((zbB (zbj F) x).getD 0)):Int)
def insX(w:ByteArray)(a b c n l f:Int):Ins :=
 if isW w [106,117,109,112]=true then .jump l
 else if isW w [108,101,115,115]=true then .less a.toNat b.toNat l
 else if isW w [115,97,109,101]=true then .same a.toNat b.toNat l
 else if isW w [99,97,108,108]=true then .call f
 else if isW w [98,97,99,107]=true then .back
 else if isW w [115,116,111,112]=true then .stop
 else if isW w [115,101,116]=true then .set a.toNat n
 else if isW w [109,111,118]=true then .mov a.toNat b.toNat
 else if isW w [97,100,100]=true then .alu 0 a.toNat b.toNat c.toNat
 else if isW w [115,117,98]=true then .alu 1 a.toNat b.toNat c.toNat
 else if isW w [109,117,108]=true then .alu 2 a.toNat b.toNat c.toNat
 else if isW w [105,110,99]=true then .inc a.toNat n
 else if isW w [108,111,97,100]=true then .load a.toNat b.toNat
 else if isW w [115,116,111,114,101]=true then .store a.toNat b.toNat
 else if isW w [114,101,97,100]=true then .read a.toNat
 else .write a.toNat
def insM(F:List FnM)(k:Nat)(i:It):Ins:=insX i.word i.a i.b i.c i.n (labM F k i.nm) (fnM F i.nm)
theorem zoX(a b c n l f:Int):insX ⟨#[115,101,116]⟩ a b c n l f=.set a.toNat n:=by kernel_rfl
theorem zoY(a b c n l f:Int):insX ⟨#[105,110,99]⟩ a b c n l f=.inc a.toNat n:=by kernel_rfl
theorem zoZ(a b c n l f:Int):insX ⟨#[109,111,118]⟩ a b c n l f=.mov a.toNat b.toNat:=by kernel_rfl
theorem zl8(a b c n l f:Int):insX ⟨#[108,111,97,100]⟩ a b c n l f=.load a.toNat b.toNat:=by kernel_rfl
theorem zjG(a b c n l f:Int):insX ⟨#[115,116,111,114,101]⟩ a b c n l f=.store a.toNat b.toNat:=by kernel_rfl
theorem zpa(a b c n l f:Int):insX ⟨#[97,100,100]⟩ a b c n l f=.alu 0 a.toNat b.toNat c.toNat:=by kernel_rfl
theorem zpb(a b c n l f:Int):insX ⟨#[115,117,98]⟩ a b c n l f=.alu 1 a.toNat b.toNat c.toNat:=by kernel_rfl
theorem zpc(a b c n l f:Int):insX ⟨#[109,117,108]⟩ a b c n l f=.alu 2 a.toNat b.toNat c.toNat:=by kernel_rfl
theorem zl9(a b c n l f:Int):insX ⟨#[114,101,97,100]⟩ a b c n l f=.read a.toNat:=by kernel_rfl
theorem zjH(a b c n l f:Int):insX ⟨#[119,114,105,116,101]⟩ a b c n l f=.write a.toNat:=by kernel_rfl
theorem zlA(a b c n l f:Int):insX ⟨#[106,117,109,112]⟩ a b c n l f=.jump l:=by kernel_rfl
theorem zlB(a b c n l f:Int):insX ⟨#[99,97,108,108]⟩ a b c n l f=.call f:=by kernel_rfl
theorem zlC(a b c n l f:Int):insX ⟨#[108,101,115,115]⟩ a b c n l f=.less a.toNat b.toNat l:=by kernel_rfl
theorem zlD(a b c n l f:Int):insX ⟨#[115,97,109,101]⟩ a b c n l f=.same a.toNat b.toNat l:=by kernel_rfl
theorem ziv(a b c n l f:Int):insX ⟨#[98,97,99,107]⟩ a b c n l f=.back:=by kernel_rfl
theorem zlE(a b c n l f:Int):insX ⟨#[115,116,111,112]⟩ a b c n l f=.stop:=by kernel_rfl
theorem zsU(x1 x2:ByteArray)(ok:Bool):opQ ⟨105,[⟨#[115,101,116]⟩,x1,x2],ok⟩=⟨⟨#[]⟩,za4 x1,0,0,zcD x2⟩:=by kernel_rfl
theorem zsV(x1 x2:ByteArray)(ok:Bool):opQ ⟨105,[⟨#[105,110,99]⟩,x1,x2],ok⟩=⟨⟨#[]⟩,za4 x1,0,0,zcD x2⟩:=by kernel_rfl
theorem zsW(x1 x2:ByteArray)(ok:Bool):opQ ⟨105,[⟨#[109,111,118]⟩,x1,x2],ok⟩=⟨⟨#[]⟩,za4 x1,za4 x2,0,0⟩:=by kernel_rfl
theorem zpd(x1 x2:ByteArray)(ok:Bool):opQ ⟨105,[⟨#[108,111,97,100]⟩,x1,x2],ok⟩=⟨⟨#[]⟩,za4 x1,za4 x2,0,0⟩:=by kernel_rfl
theorem zlF(x1 x2:ByteArray)(ok:Bool):opQ ⟨105,[⟨#[115,116,111,114,101]⟩,x1,x2],ok⟩=⟨⟨#[]⟩,za4 x1,za4 x2,0,0⟩:=by kernel_rfl
theorem zsX(x1 x2 x3:ByteArray)(ok:Bool):opQ ⟨105,[⟨#[97,100,100]⟩,x1,x2,x3],ok⟩=⟨⟨#[]⟩,za4 x1,za4 x2,za4 x3,0⟩:=by kernel_rfl
theorem zsY(x1 x2 x3:ByteArray)(ok:Bool):opQ ⟨105,[⟨#[115,117,98]⟩,x1,x2,x3],ok⟩=⟨⟨#[]⟩,za4 x1,za4 x2,za4 x3,0⟩:=by kernel_rfl
theorem zsZ(x1 x2 x3:ByteArray)(ok:Bool):opQ ⟨105,[⟨#[109,117,108]⟩,x1,x2,x3],ok⟩=⟨⟨#[]⟩,za4 x1,za4 x2,za4 x3,0⟩:=by kernel_rfl
theorem zpe(x1:ByteArray)(ok:Bool):opQ ⟨105,[⟨#[114,101,97,100]⟩,x1],ok⟩=⟨⟨#[]⟩,za4 x1,0,0,0⟩:=by kernel_rfl
theorem zlG(x1:ByteArray)(ok:Bool):opQ ⟨105,[⟨#[119,114,105,116,101]⟩,x1],ok⟩=⟨⟨#[]⟩,za4 x1,0,0,0⟩:=by kernel_rfl
theorem zjI(x1:ByteArray)(ok:Bool):zd5 ⟨105,[⟨#[106,117,109,112]⟩,x1],ok⟩=x1:=by kernel_rfl
theorem zjJ(x1:ByteArray)(ok:Bool):zd5 ⟨105,[⟨#[99,97,108,108]⟩,x1],ok⟩=x1:=by kernel_rfl
theorem zpf(x1 x2 x3:ByteArray)(ok:Bool):opQ ⟨105,[⟨#[108,101,115,115]⟩,x1,x2,x3],ok⟩=⟨x3,za4 x1,za4 x2,0,0⟩:=by kernel_rfl
theorem zjK(x1 x2 x3:ByteArray)(ok:Bool):zd5 ⟨105,[⟨#[108,101,115,115]⟩,x1,x2,x3],ok⟩=x3:=by kernel_rfl
theorem zpg(x1 x2 x3:ByteArray)(ok:Bool):opQ ⟨105,[⟨#[115,97,109,101]⟩,x1,x2,x3],ok⟩=⟨x3,za4 x1,za4 x2,0,0⟩:=by kernel_rfl
theorem zjL(x1 x2 x3:ByteArray)(ok:Bool):zd5 ⟨105,[⟨#[115,97,109,101]⟩,x1,x2,x3],ok⟩=x3:=by kernel_rfl
theorem zar(x:ByteArray):(za4 x).toNat=regN x:=by
 unfold za4 regN
 split
 ·rfl
 ·rename_i h;have:reg x<0:=by omega
  rw [show(reg x).toNat=0 from Int.toNat_of_nonpos (by omega)];rfl
theorem zlH(x:ByteArray)(h:(zbc x).2=true):zcD x=(zbc x).1:=if_pos h
def Goes(N:Nat):Ins→Prop
 | .jump to=>InC N to
 | .less _ _ to=>InC N to
 | .same _ _ to=>InC N to
 | .call to=>InC N to
 | _=>True
def Ends:Ins→Prop
 | .jump _=>True
 | .back=>True
 | .stop=>True
 | _=>False
theorem zvW(q:Said)(h5:q.kind=105)(Fm:Form q.kept)(it:It)(line:Int)(hkey:it.key=keyQ q line)(F:List FnM)(k:Nat)(L:List Said)(j N:Nat)(f:Int→Int)
  (hlab:zaE (q.word 0)=true→f (labM F k q.last)=zdV L j q.last∧InC N (labM F k q.last))
  (hfn:zbt (q.word 0)=true→f (fnM F q.last)=fnTo L q.last∧InC N (fnM F q.last)) :
  insQ L j q=zl7 f (insM F k it)∧zhn (insM F k it)∧Goes N (insM F k it)∧(ends (q.word 0)=false∨Ends (insM F k it)):=by
 have ew:it.word=zew q:=congrArg Key.word hkey
 have ea:it.a=(opQ q).a:=congrArg Key.a hkey
 have eb:it.b=(opQ q).b:=congrArg Key.b hkey
 have ec:it.c=(opQ q).c:=congrArg Key.c hkey
 have en:it.n=(opQ q).n:=congrArg Key.n hkey
 have em:it.nm=zd5 q:=congrArg Key.nm hkey
 clear hkey
 obtain⟨kd,kp,ok⟩:=q
 simp only at h5 Fm
 subst h5
 unfold insM
 cases Fm with
 | set_ x1 x2 hx1 hx2 =>
  have e0:it.word=⟨#[115,101,116]⟩:=ew
  rw [zsU] at ea eb ec en
  rw [e0,zoX,ea,en,zv7 L j ⟨105,[⟨#[115,101,116]⟩,x1,x2],ok⟩ x1 x2 rfl]
  have r1:=(zbg x1 hx1).1
  simp only [zar x1,zlH x2 hx2]
  exact⟨rfl,r1,trivial,.inl (by kernel_rfl)⟩
 | inc_ x1 x2 hx1 hx2 =>
  have e0:it.word=⟨#[105,110,99]⟩:=ew
  rw [zsV] at ea eb ec en
  rw [e0,zoY,ea,en,zvC L j ⟨105,[⟨#[105,110,99]⟩,x1,x2],ok⟩ x1 x2 rfl]
  have r1:=(zbg x1 hx1).1
  simp only [zar x1,zlH x2 hx2]
  exact⟨rfl,r1,trivial,.inl (by kernel_rfl)⟩
 | mov_ x1 x2 hx1 hx2 =>
  have e0:it.word=⟨#[109,111,118]⟩:=ew
  rw [zsW] at ea eb ec en
  rw [e0,zoZ,ea,eb,zv8 L j ⟨105,[⟨#[109,111,118]⟩,x1,x2],ok⟩ x1 x2 rfl]
  have r1:=(zbg x1 hx1).1
  have r2:=(zbg x2 hx2).1
  simp only [zar x1,zar x2]
  exact⟨rfl,⟨r1,r2⟩,trivial,.inl (by kernel_rfl)⟩
 | load_ x1 x2 hx1 hx2 =>
  have e0:it.word=⟨#[108,111,97,100]⟩:=ew
  rw [zpd] at ea eb ec en
  rw [e0,zl8,ea,eb,zs9 L j ⟨105,[⟨#[108,111,97,100]⟩,x1,x2],ok⟩ x1 x2 rfl]
  have r1:=(zbg x1 hx1).1
  have r2:=(zbg x2 hx2).1
  simp only [zar x1,zar x2]
  exact⟨rfl,⟨r1,r2⟩,trivial,.inl (by kernel_rfl)⟩
 | store_ x1 x2 hx1 hx2 =>
  have e0:it.word=⟨#[115,116,111,114,101]⟩:=ew
  rw [zlF] at ea eb ec en
  rw [e0,zjG,ea,eb,zqn L j ⟨105,[⟨#[115,116,111,114,101]⟩,x1,x2],ok⟩ x1 x2 rfl]
  have r1:=(zbg x1 hx1).1
  have r2:=(zbg x2 hx2).1
  simp only [zar x1,zar x2]
  exact⟨rfl,⟨r1,r2⟩,trivial,.inl (by kernel_rfl)⟩
 | add_ x1 x2 x3 hx1 hx2 hx3 =>
  have e0:it.word=⟨#[97,100,100]⟩:=ew
  rw [zsX] at ea eb ec en
  rw [e0,zpa,ea,eb,ec,zv9 L j ⟨105,[⟨#[97,100,100]⟩,x1,x2,x3],ok⟩ x1 x2 x3 rfl]
  have r1:=(zbg x1 hx1).1
  have r2:=(zbg x2 hx2).1
  have r3:=(zbg x3 hx3).1
  simp only [zar x1,zar x2,zar x3]
  exact⟨rfl,⟨by decide,r1,r2,r3⟩,trivial,.inl (by kernel_rfl)⟩
 | sub_ x1 x2 x3 hx1 hx2 hx3 =>
  have e0:it.word=⟨#[115,117,98]⟩:=ew
  rw [zsY] at ea eb ec en
  rw [e0,zpb,ea,eb,ec,zvA L j ⟨105,[⟨#[115,117,98]⟩,x1,x2,x3],ok⟩ x1 x2 x3 rfl]
  have r1:=(zbg x1 hx1).1
  have r2:=(zbg x2 hx2).1
  have r3:=(zbg x3 hx3).1
  simp only [zar x1,zar x2,zar x3]
  exact⟨rfl,⟨by decide,r1,r2,r3⟩,trivial,.inl (by kernel_rfl)⟩
 | mul_ x1 x2 x3 hx1 hx2 hx3 =>
  have e0:it.word=⟨#[109,117,108]⟩:=ew
  rw [zsZ] at ea eb ec en
  rw [e0,zpc,ea,eb,ec,zvB L j ⟨105,[⟨#[109,117,108]⟩,x1,x2,x3],ok⟩ x1 x2 x3 rfl]
  have r1:=(zbg x1 hx1).1
  have r2:=(zbg x2 hx2).1
  have r3:=(zbg x3 hx3).1
  simp only [zar x1,zar x2,zar x3]
  exact⟨rfl,⟨by decide,r1,r2,r3⟩,trivial,.inl (by kernel_rfl)⟩
 | read_ x1 hx1 =>
  have e0:it.word=⟨#[114,101,97,100]⟩:=ew
  rw [zpe] at ea eb ec en
  rw [e0,zl9,ea,zsA L j ⟨105,[⟨#[114,101,97,100]⟩,x1],ok⟩ x1 rfl]
  have r1:=(zbg x1 hx1).1
  simp only [zar x1]
  exact⟨rfl,r1,trivial,.inl (by kernel_rfl)⟩
 | write_ x1 hx1 =>
  have e0:it.word=⟨#[119,114,105,116,101]⟩:=ew
  rw [zlG] at ea eb ec en
  rw [e0,zjH,ea,zqo L j ⟨105,[⟨#[119,114,105,116,101]⟩,x1],ok⟩ x1 rfl]
  have r1:=(zbg x1 hx1).1
  simp only [zar x1]
  exact⟨rfl,r1,trivial,.inl (by kernel_rfl)⟩
 | jump_ x1 hx1 =>
  have e0:it.word=⟨#[106,117,109,112]⟩:=ew
  rw [zjI] at em
  rw [e0,zlA,em,zs3 L j ⟨105,[⟨#[106,117,109,112]⟩,x1],ok⟩ x1 rfl]
  obtain⟨g1,g2⟩:=hlab (by kernel_rfl)
  have g1':f (labM F k x1)=zdV L j x1:=g1
  exact⟨by simp only [zl7];rw [g1'],trivial,g2,.inr trivial⟩
 | call_ x1 hx1 =>
  have e0:it.word=⟨#[99,97,108,108]⟩:=ew
  rw [zjJ] at em
  rw [e0,zlB,em,zs6 L j ⟨105,[⟨#[99,97,108,108]⟩,x1],ok⟩ x1 rfl]
  obtain⟨g1,g2⟩:=hfn (by kernel_rfl)
  have g1':f (fnM F x1)=fnTo L x1:=g1
  exact⟨by simp only [zl7];rw [g1'],trivial,g2,.inl (by kernel_rfl)⟩
 | less_ x1 x2 x3 hx1 hx2 hx3 =>
  have e0:it.word=⟨#[108,101,115,115]⟩:=ew
  rw [zpf] at ea eb ec en
  rw [zjK] at em
  rw [e0,zlC,ea,eb,em,zs4 L j ⟨105,[⟨#[108,101,115,115]⟩,x1,x2,x3],ok⟩ x1 x2 x3 rfl]
  have r1:=(zbg x1 hx1).1
  have r2:=(zbg x2 hx2).1
  simp only [zar x1,zar x2]
  obtain⟨g1,g2⟩:=hlab (by kernel_rfl)
  have g1':f (labM F k x3)=zdV L j x3:=g1
  exact⟨by simp only [zl7];rw [g1'],⟨r1,r2⟩,g2,.inl (by kernel_rfl)⟩
 | same_ x1 x2 x3 hx1 hx2 hx3 =>
  have e0:it.word=⟨#[115,97,109,101]⟩:=ew
  rw [zpg] at ea eb ec en
  rw [zjL] at em
  rw [e0,zlD,ea,eb,em,zs5 L j ⟨105,[⟨#[115,97,109,101]⟩,x1,x2,x3],ok⟩ x1 x2 x3 rfl]
  have r1:=(zbg x1 hx1).1
  have r2:=(zbg x2 hx2).1
  simp only [zar x1,zar x2]
  obtain⟨g1,g2⟩:=hlab (by kernel_rfl)
  have g1':f (labM F k x3)=zdV L j x3:=g1
  exact⟨by simp only [zl7];rw [g1'],⟨r1,r2⟩,g2,.inl (by kernel_rfl)⟩
 | back_  =>
  have e0:it.word=⟨#[98,97,99,107]⟩:=ew
  rw [e0,ziv,zs7 L j ⟨105,[⟨#[98,97,99,107]⟩],ok⟩  rfl]
  exact⟨rfl,trivial,trivial,.inr trivial⟩
 | stop_  =>
  have e0:it.word=⟨#[115,116,111,112]⟩:=ew
  rw [e0,zlE,zs8 L j ⟨105,[⟨#[115,116,111,112]⟩],ok⟩  rfl]
  exact⟨rfl,trivial,trivial,.inr trivial⟩
end
section
open Go.RowKit Sp
structure SC(w:World)(S:Nat)(cv v mv:Value)(R:Rs)(looks:Nat)(bs bf:Int):Prop where
 c0:w.cell? ⟨S,0,none⟩=some cv
 c1:w.cell? ⟨S,1,none⟩=some v
 rs:RsC w S 2 mv R
 c6:w.cell? ⟨S,6,none⟩=some (.int .i64 (looks:Int))
 c7:w.cell? ⟨S,7,none⟩=some (.int .i64 bs)
 c8:w.cell? ⟨S,8,none⟩=some (.int .i64 bf)
 fz:∀ j,w.frozen? ⟨S,j,none⟩=false
theorem SC.lt{w:World}{S:Nat}{cv v mv:Value}{R:Rs}{looks:Nat}{bs bf:Int}(h:SC w S cv v mv R looks bs bf):S<w.heap.size:=World.block_lt_of_cell? w _ h.c0
theorem SC.block{w w':World}{S:Nat}{cv v mv:Value}{R:Rs}{looks:Nat}{bs bf:Int}(h:SC w S cv v mv R looks bs bf)(e:w'.heap[S]?=w.heap[S]?):SC w' S cv v mv R looks bs bf:=by
 have c:∀ j,w'.cell? ⟨S,j,none⟩=w.cell? ⟨S,j,none⟩:=fun j=>World.cell?_of_block (w:=w) (a:=⟨S,j,none⟩) e
 exact⟨(c _).trans h.c0,(c _).trans h.c1,⟨(c _).trans h.rs.cM,(c _).trans h.rs.cS,(c _).trans h.rs.cN,(c _).trans h.rs.cC⟩,(c _).trans h.c6,(c _).trans h.c7,(c _).trans h.c8,fun j=>(World.frozen?_of_block (w:=w) (a:=⟨S,j,none⟩) e).trans (h.fz j)⟩
theorem SC.one{w w':World}{S o:Nat}{cv v mv:Value}{R:Rs}{looks:Nat}{bs bf:Int}(h:SC w S cv v mv R looks bs bf)(c:∀ j,¬j=o→w'.cell? ⟨S,j,none⟩=w.cell? ⟨S,j,none⟩)(fz:∀ j,w'.frozen? ⟨S,j,none⟩=w.frozen? ⟨S,j,none⟩){x:Value}(hx:w'.cell? ⟨S,o,none⟩=some x):
  (o=1→SC w' S cv x mv R looks bs bf)∧(∀ n:Nat,o=6→x=.int .i64 (n:Int)→SC w' S cv v mv R n bs bf)∧(∀ n:Int,o=7→x=.int .i64 n→SC w' S cv v mv R looks n bf)∧(∀ n:Int,o=8→x=.int .i64 n→SC w' S cv v mv R looks bs n):=by
 have f:∀ j,w'.frozen? ⟨S,j,none⟩=false:=fun j=>(fz j).trans (h.fz j)
 refine⟨fun e=>?_,fun n e ex=>?_,fun n e ex=>?_,fun n e ex=>?_⟩
 ·subst e
  exact⟨(c _ (by omega)).trans h.c0,hx,⟨(c _ (by omega)).trans h.rs.cM,(c _ (by omega)).trans h.rs.cS,(c _ (by omega)).trans h.rs.cN,(c _ (by omega)).trans h.rs.cC⟩,(c _ (by omega)).trans h.c6,(c _ (by omega)).trans h.c7,(c _ (by omega)).trans h.c8,f⟩
 ·subst e;subst ex
  exact⟨(c _ (by omega)).trans h.c0,(c _ (by omega)).trans h.c1,⟨(c _ (by omega)).trans h.rs.cM,(c _ (by omega)).trans h.rs.cS,(c _ (by omega)).trans h.rs.cN,(c _ (by omega)).trans h.rs.cC⟩,hx,(c _ (by omega)).trans h.c7,(c _ (by omega)).trans h.c8,f⟩
 ·subst e;subst ex
  exact⟨(c _ (by omega)).trans h.c0,(c _ (by omega)).trans h.c1,⟨(c _ (by omega)).trans h.rs.cM,(c _ (by omega)).trans h.rs.cS,(c _ (by omega)).trans h.rs.cN,(c _ (by omega)).trans h.rs.cC⟩,(c _ (by omega)).trans h.c6,hx,(c _ (by omega)).trans h.c8,f⟩
 ·subst e;subst ex
  exact⟨(c _ (by omega)).trans h.c0,(c _ (by omega)).trans h.c1,⟨(c _ (by omega)).trans h.rs.cM,(c _ (by omega)).trans h.rs.cS,(c _ (by omega)).trans h.rs.cN,(c _ (by omega)).trans h.rs.cC⟩,(c _ (by omega)).trans h.c6,(c _ (by omega)).trans h.c7,hx,f⟩
def Free(S:Nat)(v mv:Value)(q:Nat):Prop:=¬q=S∧v.ownBlock≠some q∧mv.ownBlock≠some q
structure SO(w:World)(B S g:Nat)(C:List (Ins × Int))(v mv:Value)(xs hs:List Wy)(ms:List Mk):Prop where
 code:CodeIn w g C
 gB:g<B
 SB:B≤S
 SL:S<w.heap.size
 hp:HeapM w B v xs
 ord:HpAll (stp xs) xs.length
 hand:∀ h∈hs,WyM w h
 mkr:w.ownsRow B 217 51 mv ms.length (zbh ms)
 mbh:∀ m∈ms,BhM w m.ao m.cap m.k.behind
 vS:v.ownBlock≠some S
 mS:mv.ownBlock≠some S
 vm:∀ q,v.ownBlock=some q→mv.ownBlock≠some q
 nod:((hs++xs).map Wy.b).Nodup
 far:∀ x∈hs++xs,B≤x.b∧Free S v mv x.b∧∀ a,x.ao=some a→Free S v mv a.block∧∀ y∈hs++xs,¬a.block=y.b
 mfar:∀ m∈ms,∀ a,m.ao=some a→Free S v mv a.block∧∀ y∈hs++xs,¬a.block=y.b
theorem WyM.keep{w w':World}{x:Wy}(h:WyM w x)(hs:w.heap.size≤w'.heap.size)(h1:w'.heap[x.b]?=w.heap[x.b]?)(h2:∀ a,x.ao=some a→w'.heap[a.block]?=w.heap[a.block]?):WyM w' x :=
 ⟨h.key,h.kn.block h1,h.bh.kept hs fun _g e=>h2 _ e⟩
theorem zdM{w w':World}{g:Nat}{C:List (Ins × Int)}(h:CodeIn w g C)(e:w'.heap[g]?=w.heap[g]?):CodeIn w' g C :=
 fun j hj=>⟨(World.cell?_of_block (w:=w) (a:=⟨g,j*2,none⟩) e).trans (h j hj).1,(World.cell?_of_block (w:=w) (a:=⟨g,j*2+1,none⟩) e).trans (h j hj).2⟩
theorem WyM.aolt{w:World}{x:Wy}(h:WyM w x){a:Addr}(ha:x.ao=some a):a.block<w.heap.size:=by
 obtain⟨g,rfl⟩:=h.bh.at0 a ha
 exact(h.bh.cell g ha).1
theorem zyr{w:World}{ao:Option Addr}{cap:Nat}{l:List Int}(h:BhM w ao cap l){a:Addr}(ha:ao=some a):a.block<w.heap.size:=by
 obtain⟨g,rfl⟩:=h.at0 a ha
 exact(h.cell g ha).1
section
variable {w w':World} {B S g:Nat} {C:List (Ins × Int)} {v mv:Value} {xs hs:List Wy} {ms:List Mk}
theorem SO.wy(h:SO w B S g C v mv xs hs ms):∀ x∈hs++xs,WyM w x:=fun x hx=>by
 rcases List.mem_append.1 hx with e|e
 ·exact h.hand x e
 ·exact h.hp.wy x e
theorem SO.stay(h:SO w B S g C v mv xs hs ms)(hsz:w.heap.size≤w'.heap.size)(hb:∀ q,q<w.heap.size→¬q=S→w'.heap[q]?=w.heap[q]?):SO w' B S g C v mv xs hs ms:=by
 have hwy:∀ x∈hs++xs,WyM w' x:=fun x hx=>by
  have k:=h.wy x hx
  obtain⟨_,f1,f2⟩:=h.far x hx
  exact k.keep hsz (hb _ k.kn.lt f1.1) (fun a ha=>hb _ (k.aolt ha) (f2 a ha).1.1)
 have hv:∀ q,v.ownBlock=some q→w'.heap[q]?=w.heap[q]?:=fun q hq=>hb q (h.hp.row.lt q hq).2 (fun e=>h.vS (by rw [hq,e]))
 have hm:∀ q,mv.ownBlock=some q→w'.heap[q]?=w.heap[q]?:=fun q hq=>hb q (h.mkr.lt q hq).2 (fun e=>h.mS (by rw [hq,e]))
 have hgS:¬g=S:=by have:=h.gB;have:=h.SB;omega
 exact⟨zdM h.code (hb g (by have:=h.gB;have:=h.SB;have:=h.SL;omega) hgS),h.gB,h.SB,Nat.lt_of_lt_of_le h.SL hsz,⟨zcc h.hp.row hv,fun x hx=>hwy x (List.mem_append_right _ hx),h.hp.far⟩,h.ord,fun x hx=>hwy x (List.mem_append_left _ hx),zcc h.mkr hm,fun m hm2=>(h.mbh m hm2).kept hsz (fun q e=>hb q ((h.mbh m hm2).cell q e).1 (h.mfar m hm2 _ e).1.1),h.vS,h.mS,h.vm,h.nod,h.far,h.mfar⟩
theorem SO.below(h:SO w B S g C v mv xs hs ms)(hb:Below w.heap.size w w'):SO w' B S g C v mv xs hs ms:=h.stay hb.size fun q hq _=>hb.block q hq
theorem SO.drop{y:Wy}(h:SO w B S g C v mv xs (y :: hs) ms):SO w B S g C v mv xs hs ms :=
 ⟨h.code,h.gB,h.SB,h.SL,h.hp,h.ord,fun x hx=>h.hand x (List.mem_cons_of_mem _ hx),h.mkr,h.mbh,h.vS,h.mS,h.vm,(List.nodup_cons.1 h.nod).2,fun x hx=>by
  obtain⟨a1,a2,a3⟩:=h.far x (List.mem_cons_of_mem _ hx)
  exact⟨a1,a2,fun a ha=>⟨(a3 a ha).1,fun z hz=>(a3 a ha).2 z (List.mem_cons_of_mem _ hz)⟩⟩,fun m hm a ha=>⟨(h.mfar m hm a ha).1,fun z hz=>(h.mfar m hm a ha).2 z (List.mem_cons_of_mem _ hz)⟩⟩
theorem SO.turn{x:Wy}{rs:List Wy}(h:SO w B S g C v mv xs (x :: hs) ms)(hg:w.grownBy w' (some x.b))(hr:∀ y∈rs,WyM w' y)(hb:∀ y∈rs,y.b=x.b∨w.heap.size≤y.b)(hn:(rs.map Wy.b).Nodup)
  (ha:∀ y∈rs,∀ a,y.ao=some a→(x.ao=some a∨w.heap.size≤a.block)∧∀ z∈rs,¬a.block=z.b):SO w' B S g C v mv xs (rs++hs) ms:=by
 have hlt:=(h.hand x List.mem_cons_self).kn.lt
 obtain⟨x1,x2,x3⟩:=h.far x List.mem_cons_self
 have hnod:=List.nodup_cons.1 h.nod
 have hx:∀ y∈hs++xs,¬y.b=x.b:=fun y hy e=>hnod.1 (by rw [←e];exact List.mem_map_of_mem hy)
 have hin:∀ y∈hs++xs,y∈x :: hs++xs:=fun y hy=>List.mem_cons_of_mem _ hy
 have hblk:∀ q,q<w.heap.size→¬q=x.b→w'.heap[q]?=w.heap[q]?:=fun q hq hne=>hg.block q hq (fun e=>hne (by cases e;rfl))
 have hwy:∀ y∈hs++xs,WyM w' y:=fun y hy=>by
  have k:=h.wy y (hin y hy)
  obtain⟨_,f1,f2⟩:=h.far y (hin y hy)
  exact k.keep hg.size (hblk _ k.kn.lt (hx y hy)) (fun a ha=>hblk _ (k.aolt ha) ((f2 a ha).2 x List.mem_cons_self))
 have hv:∀ q,v.ownBlock=some q→w'.heap[q]?=w.heap[q]?:=fun q hq=>hblk q (h.hp.row.lt q hq).2 (fun e=>x2.2.1 (by rw [hq,e]))
 have hm:∀ q,mv.ownBlock=some q→w'.heap[q]?=w.heap[q]?:=fun q hq=>hblk q (h.mkr.lt q hq).2 (fun e=>x2.2.2 (by rw [hq,e]))
 have free:∀ q,w.heap.size≤q→Free S v mv q:=fun q hq=>⟨by have:=h.SL;omega,fun e=>by have:=(h.hp.row.lt q e).2;omega,fun e=>by have:=(h.mkr.lt q e).2;omega⟩
 have hrb:∀ y∈rs,B≤y.b∧Free S v mv y.b:=fun y hy=>by
  rcases hb y hy with e|e
  ·rw [e];exact⟨x1,x2⟩
  ·exact⟨by have:=h.SB;have:=h.SL;omega,free _ e⟩
 have mem:∀ z,z∈rs++hs++xs→z∈rs∨z∈hs++xs:=fun z hz=>by
  rw [List.append_assoc] at hz;exact List.mem_append.1 hz
 have gne:¬g=x.b:=by have:=h.gB;omega
 refine⟨zdM h.code (hblk g (by have:=h.gB;have:=h.SB;have:=h.SL;omega) gne),h.gB,h.SB,Nat.lt_of_lt_of_le h.SL hg.size,⟨zcc h.hp.row hv,fun y hy=>hwy y (List.mem_append_right _ hy),h.hp.far⟩,h.ord,fun y hy=>?_,zcc h.mkr hm,fun m hm2=>(h.mbh m hm2).kept hg.size (fun q e=>hblk q ((h.mbh m hm2).cell q e).1 ((h.mfar m hm2 _ e).2 x List.mem_cons_self)),h.vS,h.mS,h.vm,?_,fun y hy=>?_,fun m hm2 a ha2=>⟨(h.mfar m hm2 a ha2).1,fun z hz=>?_⟩⟩
 ·rcases List.mem_append.1 hy with e|e
  ·exact hr y e
  ·exact hwy y (List.mem_append_left _ e)
 ·rw [List.append_assoc,List.map_append]
  refine List.nodup_append.2 ⟨hn,hnod.2,fun p hp q hq e=>?_⟩
  subst e
  obtain⟨y,hy,rfl⟩:=List.mem_map.1 hp
  obtain⟨z,hz,e⟩:=List.mem_map.1 hq
  rcases hb y hy with e2|e2
  ·exact hx z hz (e.trans e2)
  ·have:=(h.wy z (hin z hz)).kn.lt;omega
 ·rcases mem y hy with e|e
  ·obtain⟨b1,b2⟩:=hrb y e
   refine⟨b1,b2,fun a ha2=>?_⟩
   obtain⟨c1,c2⟩:=ha y e a ha2
   have hfr:Free S v mv a.block∧∀ z∈hs++xs,¬a.block=z.b:=by
    rcases c1 with c|c
    ·exact⟨(x3 a c).1,fun z hz=>(x3 a c).2 z (hin z hz)⟩
    ·exact⟨free _ c,fun z hz e3=>by have:=(h.wy z (hin z hz)).kn.lt;omega⟩
   refine⟨hfr.1,fun z hz=>?_⟩
   rcases mem z hz with e3|e3
   ·exact c2 z e3
   ·exact hfr.2 z e3
  ·obtain⟨b1,b2,b3⟩:=h.far y (hin y e)
   refine⟨b1,b2,fun a ha2=>⟨(b3 a ha2).1,fun z hz=>?_⟩⟩
   rcases mem z hz with e3|e3
   ·rcases hb z e3 with e4|e4
    ·rw [e4];exact(b3 a ha2).2 x List.mem_cons_self
    ·have:=(h.wy y (hin y e)).aolt ha2;omega
   ·exact(b3 a ha2).2 z (hin z e3)
 ·rcases mem z hz with e3|e3
  ·rcases hb z e3 with e4|e4
   ·rw [e4];exact(h.mfar m hm2 a ha2).2 x List.mem_cons_self
   ·have:=zyr (h.mbh m hm2) ha2;omega
  ·exact(h.mfar m hm2 a ha2).2 z (hin z e3)
end
end
section
open Go.RowKit Sp
section
variable {w w':World} {B S g:Nat} {C:List (Ins × Int)} {v mv:Value} {xs hs:List Wy} {ms:List Mk}
theorem SO.took{H cap:Nat}{ys:List Wy}{x:Wy}(h:SO w B S g C (.slice (some ⟨H,0,none⟩) xs.length cap) mv xs hs ms)(hk:Kept2 w w' S 1 (some H))(hp:(x :: ys).Perm xs)(hM:HeapM w' B (.slice (some ⟨H,0,none⟩) ys.length cap) ys)(hA:HpAll (stp ys) ys.length)(hx:WyM w' x):
  SO w' B S g C (.slice (some ⟨H,0,none⟩) ys.length cap) mv ys (x :: hs) ms:=by
 have hpp:(x :: hs++ys).Perm (hs++xs):=(List.perm_middle (l₁:=hs) (a:=x) (l₂:=ys)).symm.trans (List.Perm.append_left hs hp)
 have mem:∀ z,z∈x :: hs++ys→z∈hs++xs:=fun z hz=>hpp.mem_iff.1 hz
 have hblk:∀ q,q<w.heap.size→¬q=S→¬q=H→w'.heap[q]?=w.heap[q]?:=fun q hq h1 h2=>hk.block q hq h1 (fun e=>h2 (by cases e;rfl))
 have hwy:∀ z∈hs,WyM w' z:=fun z hz=>by
  have k:=h.hand z hz
  obtain⟨_,f1,f2⟩:=h.far z (List.mem_append_left _ hz)
  exact k.keep hk.size (hblk _ k.kn.lt f1.1 (fun e=>f1.2.1 (by rw [e];rfl))) (fun a ha=>hblk _ (k.aolt ha) (f2 a ha).1.1 (fun e=>(f2 a ha).1.2.1 (by rw [e];rfl)))
 have hm:∀ q,mv.ownBlock=some q→w'.heap[q]?=w.heap[q]?:=fun q hq=>hblk q (h.mkr.lt q hq).2 (fun e=>h.mS (by rw [hq,e])) (fun e=>h.vm H rfl (by rw [hq,e]))
 have gS:¬g=S:=by have:=h.gB;have:=h.SB;omega
 have gH:¬g=H:=by have:=h.gB;have:=(h.hp.row.lt H rfl).1;omega
 refine⟨zdM h.code (hblk g (by have:=h.gB;have:=h.SB;have:=h.SL;omega) gS gH),h.gB,h.SB,Nat.lt_of_lt_of_le h.SL hk.size,hM,hA,fun z hz=>?_,zcc h.mkr hm,fun m hm2=>(h.mbh m hm2).kept hk.size (fun q e=>hblk q ((h.mbh m hm2).cell q e).1 (h.mfar m hm2 _ e).1.1 (fun e2=>(h.mfar m hm2 _ e).1.2.1 (by rw [←e2];rfl))),h.vS,h.mS,h.vm,(hpp.map Wy.b).nodup_iff.2 h.nod,fun z hz=>?_,fun m hm2 a ha=>⟨(h.mfar m hm2 a ha).1,fun z hz=>(h.mfar m hm2 a ha).2 z (mem z hz)⟩⟩
 ·rcases List.mem_cons.1 hz with e|e
  ·rw [e];exact hx
  ·exact hwy z e
 ·obtain⟨a1,a2,a3⟩:=h.far z (mem z hz)
  exact⟨a1,a2,fun a ha=>⟨(a3 a ha).1,fun y hy=>(a3 a ha).2 y (mem y hy)⟩⟩
theorem SO.added{H cap:Nat}{ys:List Wy}{x:Wy}(h:SO w B S g C v mv xs (x :: hs) ms)(hk:Kept2 w w' S 1 v.ownBlock)(hp:ys.Perm (xs++[x]))(hM:HeapM w' B (.slice (some ⟨H,0,none⟩) ys.length cap) ys)(hA:HpAll (stp ys) ys.length)(hH:v.ownBlock=some H∨w.heap.size≤H):
  SO w' B S g C (.slice (some ⟨H,0,none⟩) ys.length cap) mv ys hs ms:=by
 have hpp:(hs++ys).Perm (x :: hs++xs):=(List.Perm.append_left hs (hp.trans List.perm_append_comm)).trans (List.perm_middle (l₁:=hs) (a:=x) (l₂:=xs))
 have mem:∀ z,z∈hs++ys→z∈x :: hs++xs:=fun z hz=>hpp.mem_iff.1 hz
 have hblk:∀ q,q<w.heap.size→¬q=S→v.ownBlock≠some q→w'.heap[q]?=w.heap[q]?:=fun q hq h1 h2=>hk.block q hq h1 (fun e=>h2 e.symm)
 have hwy:∀ z∈hs,WyM w' z:=fun z hz=>by
  have k:=h.hand z (List.mem_cons_of_mem _ hz)
  obtain⟨_,f1,f2⟩:=h.far z (List.mem_append_left _ (List.mem_cons_of_mem _ hz))
  exact k.keep hk.size (hblk _ k.kn.lt f1.1 f1.2.1) (fun a ha=>hblk _ (k.aolt ha) (f2 a ha).1.1 (f2 a ha).1.2.1)
 have hm:∀ q,mv.ownBlock=some q→w'.heap[q]?=w.heap[q]?:=fun q hq=>hblk q (h.mkr.lt q hq).2 (fun e=>h.mS (by rw [hq,e])) (fun e=>h.vm q e hq)
 have gS:¬g=S:=by have:=h.gB;have:=h.SB;omega
 have gv:v.ownBlock≠some g:=fun e=>by have:=h.gB;have:=(h.hp.row.lt g e).1;omega
 have free:∀ q,q<w.heap.size→Free S v mv q→Free S (.slice (some ⟨H,0,none⟩) ys.length cap) mv q:=fun q hq f=>by
  refine⟨f.1,fun e=>?_,f.2.2⟩
  have e2:H=q:=by have:some H=some q:=e;simpa using this
  rcases hH with e3|e3
  ·exact f.2.1 (by rw [e3,e2])
  ·omega
 refine⟨zdM h.code (hblk g (by have:=h.gB;have:=h.SB;have:=h.SL;omega) gS gv),h.gB,h.SB,Nat.lt_of_lt_of_le h.SL hk.size,hM,hA,hwy,zcc h.mkr hm,fun m hm2=>(h.mbh m hm2).kept hk.size (fun q e=>hblk q ((h.mbh m hm2).cell q e).1 (h.mfar m hm2 _ e).1.1 (h.mfar m hm2 _ e).1.2.1),fun e=>?_,h.mS,fun q e e2=>?_,(hpp.map Wy.b).nodup_iff.2 h.nod,fun z hz=>?_,fun m hm2 a ha=>⟨free _ (zyr (h.mbh m hm2) ha) (h.mfar m hm2 a ha).1,fun z hz=>(h.mfar m hm2 a ha).2 z (mem z hz)⟩⟩
 ·have e2:H=S:=by have:some H=some S:=e;simpa using this
  rcases hH with e3|e3
  ·exact h.vS (by rw [e3,e2])
  ·have:=h.SL;omega
 ·have e3:H=q:=by have:some H=some q:=e;simpa using this
  rcases hH with e4|e4
  ·exact h.vm H e4 (by rw [e2,e3])
  ·have:=(h.mkr.lt q e2).2;omega
 ·have hz2:=mem z hz
  obtain⟨a1,a2,a3⟩:=h.far z hz2
  have kz:=h.wy z hz2
  exact⟨a1,free _ kz.kn.lt a2,fun a ha=>⟨free _ (kz.aolt ha) (a3 a ha).1,fun y hy=>(a3 a ha).2 y (mem y hy)⟩⟩
theorem SO.remark{mv':Value}{ms':List Mk}(h:SO w B S g C v mv xs hs ms)(hk:Kept4 w w' S 2 mv.ownBlock)(hM:w'.ownsRow B 217 51 mv' ms'.length (zbh ms'))(hM':∀ q,mv'.ownBlock=some q→mv.ownBlock=some q∨w.heap.size≤q)
  (hms:∀ m∈ms',m∈ms∨∃ x∈hs++xs,m.ao=x.ao∧m.cap=x.cap∧m.k=x.k):SO w' B S g C v mv' xs hs ms':=by
 have hblk:∀ q,q<w.heap.size→¬q=S→mv.ownBlock≠some q→w'.heap[q]?=w.heap[q]?:=fun q hq h1 h2=>hk.block q hq h1 (fun e=>h2 e.symm)
 have hwy:∀ z∈hs++xs,WyM w' z:=fun z hz=>by
  have k:=h.wy z hz
  obtain⟨_,f1,f2⟩:=h.far z hz
  exact k.keep hk.size (hblk _ k.kn.lt f1.1 f1.2.2) (fun a ha=>hblk _ (k.aolt ha) (f2 a ha).1.1 (f2 a ha).1.2.2)
 have hv:∀ q,v.ownBlock=some q→w'.heap[q]?=w.heap[q]?:=fun q hq=>hblk q (h.hp.row.lt q hq).2 (fun e=>h.vS (by rw [hq,e])) (h.vm q hq)
 have gS:¬g=S:=by have:=h.gB;have:=h.SB;omega
 have gv:mv.ownBlock≠some g:=fun e=>by have:=h.gB;have:=(h.mkr.lt g e).1;omega
 have free:∀ q,q<w.heap.size→Free S v mv q→Free S v mv' q:=fun q hq f=>by
  refine⟨f.1,f.2.1,fun e=>?_⟩
  rcases hM' q e with e3|e3
  ·exact f.2.2 e3
  ·omega
 refine⟨zdM h.code (hblk g (by have:=h.gB;have:=h.SB;have:=h.SL;omega) gS gv),h.gB,h.SB,Nat.lt_of_lt_of_le h.SL hk.size,⟨zcc h.hp.row hv,fun x hx=>hwy x (List.mem_append_right _ hx),h.hp.far⟩,h.ord,fun z hz=>hwy z (List.mem_append_left _ hz),hM,fun m hm2=>?_,h.vS,fun e=>?_,fun q e e2=>?_,h.nod,fun z hz=>?_,fun m hm2 a ha=>?_⟩
 ·rcases hms m hm2 with e|⟨x,hx,e1,e2,e3⟩
  ·exact(h.mbh m e).kept hk.size (fun q e2=>hblk q ((h.mbh m e).cell q e2).1 (h.mfar m e _ e2).1.1 (h.mfar m e _ e2).1.2.2)
  ·rw [e1,e2,e3];exact(hwy x hx).bh
 ·rcases hM' S e with e3|e3
  ·exact h.mS e3
  ·have:=h.SL;omega
 ·rcases hM' q e2 with e3|e3
  ·exact h.vm q e e3
  ·have:=(h.hp.row.lt q e).2;omega
 ·obtain⟨a1,a2,a3⟩:=h.far z hz
  have kz:=h.wy z hz
  exact⟨a1,free _ kz.kn.lt a2,fun a ha=>⟨free _ (kz.aolt ha) (a3 a ha).1,(a3 a ha).2⟩⟩
 ·rcases hms m hm2 with e|⟨x,hx,e1,e2,e3⟩
  ·exact⟨free _ (zyr (h.mbh m e) ha) (h.mfar m e a ha).1,(h.mfar m e a ha).2⟩
  ·rw [e1] at ha
   obtain⟨_,_,f2⟩:=h.far x hx
   exact⟨free _ ((h.wy x hx).aolt ha) (f2 a ha).1,(f2 a ha).2⟩
theorem ziC{o:Nat}{hb:Option Nat}(hk:Kept2 w w' S o hb)(hS:B≤S)(hBw:B≤w.heap.size)(hh:∀ q,hb=some q→B≤q):Below B w w' :=
 ⟨hk.os,hk.tape,hk.output,hk.size,fun q hq=>hk.block q (by omega) (by omega) (fun e=>by have:=hh q e.symm;omega)⟩
theorem znN{o:Nat}{hb:Option Nat}(hk:Kept4 w w' S o hb)(hS:B≤S)(hBw:B≤w.heap.size)(hh:∀ q,hb=some q→B≤q):Below B w w' :=
 ⟨hk.os,hk.tape,hk.output,hk.size,fun q hq=>hk.block q (by omega) (by omega) (fun e=>by have:=hh q e.symm;omega)⟩
end
end
section
open Go.RowKit Sp
def zgF(ao:Option Addr)(cap:Nat)(ps:List Nat)(ks:List Kn):List Wy:=List.zipWith (fun p k=>(⟨p,ao,cap,k⟩:Wy)) ps ks
theorem zmr{ao:Option Addr}{cap:Nat}{ps:List Nat}{ks:List Kn}(h:ps.length=ks.length):(zgF ao cap ps ks).length=ks.length:=by simp [zgF,h]
theorem zpx{ao:Option Addr}{cap:Nat}{ps:List Nat}{ks:List Kn}(i:Nat)(y:Wy)(h:(zgF ao cap ps ks)[i]?=some y):∃ p k,ps[i]?=some p∧ks[i]?=some k∧y=⟨p,ao,cap,k⟩:=by
 unfold zgF at h
 rw [List.getElem?_zipWith] at h
 cases hp:ps[i]? with
 | none=>rw [hp] at h;cases h
 | some p =>
  cases hk:ks[i]? with
  | none=>rw [hp,hk] at h;cases h
  | some k=>rw [hp,hk] at h;exact⟨p,k,rfl,rfl,by simpa using h.symm⟩
theorem zy1{ao:Option Addr}{cap:Nat}{ps:List Nat}{ks:List Kn}(h:ps.length=ks.length):(zgF ao cap ps ks).map Wy.b=ps:=by
 unfold zgF
 rw [List.map_zipWith]
 show List.zipWith (fun p _=>p) ps ks=ps
 clear ao cap
 induction ps generalizing ks with
 | nil=>rfl
 | cons p r ih =>
  cases ks with
  | nil=>simp at h
  | cons k t=>rw [List.zipWith_cons_cons,ih (by simpa using h)]
theorem zgh{ao:Option Addr}{cap:Nat}{ps:List Nat}{ks:List Kn}{y:Wy}(h:y∈zgF ao cap ps ks):∃(i p:Nat) (k:Kn),ps[i]?=some p∧ks[i]?=some k∧y=⟨p,ao,cap,k⟩:=by
 obtain⟨i,hi⟩:=List.mem_iff_getElem?.1 h
 obtain⟨p,k,a,b,c⟩:=zpx i y hi
 exact⟨i,p,k,a,b,c⟩
theorem zrp{w w':World}{B S g:Nat}{C:List (Ins × Int)}{v mv:Value}{xs:List Wy}{ms:List Mk}{x:Wy}{ks:List Kn}{so:Option Addr}{ps:List Nat}{ao':Option Addr}{cap' n':Nat}(O:SO w B S g C v mv xs [x] ms)(A:WaysAt w w' x.b (.slice ao' n' cap') ks so ps)(hb:∀ k'∈ks,n'=k'.behind.length∧BhM w' ao' cap' k'.behind)(ha:ao'=x.ao∨∀ a,ao'=some a→w.heap.size≤a.block)(hf:∀ p∈ps,∀ a,ao'=some a→¬a.block=p)(hkey:∀ k'∈ks,KeyOk k'):
  SO w' B S g C v mv xs (zgF ao' cap' ps ks) ms:=by
 have:=O.turn (rs:=zgF ao' cap' ps ks) A.grown (fun y hy=>?_) (fun y hy=>?_) (by rw [zy1 A.len];exact A.nodup) (fun y hy a hya=>?_)
 ·rw [List.append_nil] at this;exact this
 ·obtain⟨i,p,k,hp,hk,rfl⟩:=zgh hy
  have hkm:=List.mem_of_getElem? hk
  obtain⟨h1,h2⟩:=hb k hkm
  have h3:=A.kn i p k hp hk
  rw [h1] at h3
  exact⟨hkey k hkm,h3,h2⟩
 ·obtain⟨i,p,k,hp,hk,rfl⟩:=zgh hy
  exact A.from' p (List.mem_of_getElem? hp)
 ·obtain⟨i,p,k,hp,hk,rfl⟩:=zgh hy
  refine⟨?_,fun z hz=>?_⟩
  ·rcases ha with e|e
   ·exact .inl (by rw [←e];exact hya)
   ·exact .inr (e a hya)
  ·obtain⟨i2,p2,k2,hp2,_,rfl⟩:=zgh hz
   exact hf p2 (List.mem_of_getElem? hp2) a hya
theorem zz9{w w0:World}{B S g:Nat}{C:List (Ins × Int)}{cv v mv:Value}{R:Rs}{looks:Nat}{bs bf:Int}{xs hs:List Wy}{x:Wy}(O:SO w B S g C v mv xs (x :: hs) R.marked)(c:SC w S cv v mv R looks bs bf)(hb:Below B w0 w)(hlen:xs.length<100000):
  Calls Tryz.prog 138 #[.pointer (some ⟨S,1,none⟩),.pointer (some ⟨x.b,0,none⟩)] w fun e w'=>e=.returned (.tuple #[])∧∃(v':Value) (ys:List Wy),ys.Perm (xs++[x])∧SO w' B S g C v' mv ys hs R.marked∧SC w' S cv v' mv R looks bs bf∧Below B w0 w'∧Kept2 w w' S 1 v.ownBlock∧(∀ q,v'.ownBlock=some q→v.ownBlock=some q∨w.heap.size≤q):=by
 have hBw:B≤w.heap.size:=by have:=O.SB;have:=O.SL;omega
 obtain⟨_,f1,f2⟩:=O.far x List.mem_cons_self
 have mem:∀ y,y∈xs++[x]→y∈x :: hs++xs:=fun y hy=>by
  rcases List.mem_append.1 hy with e|e
  ·exact List.mem_append_right _ e
  ·rw [List.mem_singleton.1 e];exact List.mem_cons_self
 refine(zwo (B:=B) c.c1 (c.fz 1) O.hp O.ord (O.hand x List.mem_cons_self) hlen hBw O.vS (fun q hq=>⟨fun e=>f1.2.1 (by rw [hq,e]),fun a ha e=>(f2 a ha).1.2.1 (by rw [hq,e])⟩) (fun y hy=>?_)).mono ?_
 ·obtain⟨_,g1,g2⟩:=O.far y (mem y hy)
  exact⟨g1.1,fun a ha=>(g2 a ha).1.1⟩
 ·rintro e w' ⟨rfl,H,cap,ys,hc,hp,hM,hA,hH,hk⟩
  refine⟨rfl,.slice (some ⟨H,0,none⟩) ys.length cap,ys,hp,O.added hk hp hM hA hH,(c.one (o:=1) hk.cell hk.fz hc).1 rfl,hb.trans (ziC hk O.SB hBw (fun q hq=>(O.hp.row.lt q hq).1)),hk,fun q hq=>?_⟩
  have e:H=q:=by have:some H=some q:=hq;simpa using this
  rw [←e];exact hH
theorem SC.kept4{w w':World}{S:Nat}{cv v mv mv':Value}{R R':Rs}{looks:Nat}{bs bf:Int}{hb:Option Nat}(h:SC w S cv v mv R looks bs bf)(hk:Kept4 w w' S 2 hb)(hr:RsC w' S 2 mv' R'):SC w' S cv v mv' R' looks bs bf:=by
 have c:∀ j,¬j=2→¬j=3→¬j=4→¬j=5→w'.cell? ⟨S,j,none⟩=w.cell? ⟨S,j,none⟩:=fun j a b c d=>hk.cell j a b c d
 exact⟨(c _ (by omega) (by omega) (by omega) (by omega)).trans h.c0,(c _ (by omega) (by omega) (by omega) (by omega)).trans h.c1,hr,(c _ (by omega) (by omega) (by omega) (by omega)).trans h.c6,(c _ (by omega) (by omega) (by omega) (by omega)).trans h.c7,(c _ (by omega) (by omega) (by omega) (by omega)).trans h.c8,fun j=>(hk.fz j).trans (h.fz j)⟩
theorem ztV{w:World}{B S g o:Nat}{C:List (Ins × Int)}{v mv u:Value}{xs hs:List Wy}{ms:List Mk}(O:SO w B S g C v mv xs hs ms):SO (w.setCell ⟨S,o,none⟩ u) B S g C v mv xs hs ms :=
 O.stay (by rw [World.size_setCell];exact Nat.le_refl _) (fun q _ hq=>Below.heap_setCell w _ _ q hq)
theorem SC.set7{w:World}{S:Nat}{cv v mv:Value}{R:Rs}{looks:Nat}{bs bf:Int}(h:SC w S cv v mv R looks bs bf)(n:Int):SC (w.setCell ⟨S,7,none⟩ (.int .i64 n)) S cv v mv R looks n bf :=
 (h.one (o:=7) (fun j hj=>by rw [zaq w S 7 j _ _ h.c7,if_neg hj]) (fun j=>zcL) (World.cell?_setCell_same _ _ _ h.c7)).2.2.1 n rfl rfl
theorem SC.set8{w:World}{S:Nat}{cv v mv:Value}{R:Rs}{looks:Nat}{bs bf:Int}(h:SC w S cv v mv R looks bs bf)(n:Int):SC (w.setCell ⟨S,8,none⟩ (.int .i64 n)) S cv v mv R looks bs n :=
 (h.one (o:=8) (fun j hj=>by rw [zaq w S 8 j _ _ h.c8,if_neg hj]) (fun j=>zcL) (World.cell?_setCell_same _ _ _ h.c8)).2.2.2 n rfl rfl
theorem SC.set6{w:World}{S:Nat}{cv v mv:Value}{R:Rs}{looks:Nat}{bs bf:Int}(h:SC w S cv v mv R looks bs bf)(n:Nat):SC (w.setCell ⟨S,6,none⟩ (.int .i64 (n:Int))) S cv v mv R n bs bf :=
 (h.one (o:=6) (fun j hj=>by rw [zaq w S 6 j _ _ h.c6,if_neg hj]) (fun j=>zcL) (World.cell?_setCell_same _ _ _ h.c6)).2.1 n rfl rfl
end
end Go.Proofs.YtfpgjkbjbbgciaaGreatDoor
