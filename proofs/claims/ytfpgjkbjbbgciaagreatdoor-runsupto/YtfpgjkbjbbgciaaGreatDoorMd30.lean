import Derived.Test.YtfpgjkbjbbgciaaGreatDoorMd27
set_option maxRecDepth 100000
set_option maxHeartbeats 8000000
namespace Go.Proofs.YtfpgjkbjbbgciaaGreatDoor
open Sp
def cnt(L:List Said):Nat→Nat
 | 0=>0
 | i+1=>cnt L i+(match L[i]? with|none=>0|some q=>if q.kind=105 then 1 else 0)
theorem zhV(L:List Said)(i:Nat)(h:i<L.length)(h5:L[i].kind=105):cnt L (i+1)=cnt L i+1:=by simp [cnt,List.getElem?_eq_getElem h,h5]
theorem ze8(L:List Said)(i:Nat)(h:i<L.length)(h5:¬L[i].kind=105):cnt L (i+1)=cnt L i:=by simp [cnt,List.getElem?_eq_getElem h,h5]
theorem zvt(L:List Said)(i d:Nat):cnt L i≤cnt L (i+d):=by
 induction d with
 | zero=>exact Nat.le_refl _
 | succ d ih=>exact Nat.le_trans ih (Nat.le_add_right _ _)
theorem zou(L:List Said){i j:Nat}(h:i≤j):cnt L i≤cnt L j:=by
 obtain⟨d,rfl⟩:=Nat.exists_eq_add_of_le h
 exact zvt L i d
theorem zxm(L:List Said)(i:Nat):cnt L i≤i:=by
 induction i with
 | zero=>exact Nat.le_refl _
 | succ i ih =>
  show cnt L i+_≤i+1
  have:(match L[i]? with|none=>0|some q=>if q.kind=105 then 1 else 0)≤1:=by
   split
   ·omega
   ·split <;> omega
  omega
def NoFn(L:List Said)(i j:Nat):Prop:=∀ m (hm:m<L.length),i≤m→m≤j→¬L[m].kind=102
theorem NoFn.one{L:List Said}{i:Nat}{hi:i<L.length}(h:¬L[i].kind=102):NoFn L i i:=fun m hm a b=>by
 have e:m=i:=by omega
 subst e;exact h
theorem NoFn.cons{L:List Said}{i j:Nat}{hi:i<L.length}(h:¬L[i].kind=102)(h2:NoFn L (i+1) j):NoFn L i j:=fun m hm a b=>by
 by_cases e:m=i
 ·subst e;exact h
 ·exact h2 m hm (by omega) b
theorem NoFn.trans{L:List Said}{i j k l:Nat}(h:NoFn L i j)(h2:NoFn L k l)(hk:k≤j+1):NoFn L i l:=fun m hm a b=>by
 by_cases e:m≤j
 ·exact h m hm a e
 ·exact h2 m hm (by omega) b
theorem zov(L:List Said)(i j:Nat)(h:zad L i=(j:Int)):∃ hj:j<L.length,i≤j∧L[j].kind=105∧cnt L j=cnt L i∧NoFn L i j:=by
 by_cases hi:i<L.length
 ·by_cases h1:L[i].kind=102
  ·rw [zje L i hi h1] at h;omega
  ·by_cases h5:L[i].kind=105
   ·rw [ze3 L i hi h5] at h
    have e:i=j:=by omega
    subst e
    exact⟨hi,Nat.le_refl _,h5,rfl,.one (hi:=hi) h1⟩
   ·rw [zeg L i hi h1 h5] at h
    obtain⟨hj,a,b,c,d⟩:=zov L (i+1) j h
    exact⟨hj,by omega,b,by rw [c,ze8 L i hi h5],.cons (hi:=hi) h1 d⟩
 ·rw [zgK L i hi] at h;omega
termination_by L.length-i
theorem ze9{its:List It}{k:Key}{b:List Key}(h:its.map It.key=k :: b):∃ t r,its=t :: r∧t.key=k∧r.map It.key=b:=by
 cases its with
 | nil=>simp at h
 | cons t r=>simp at h;exact⟨t,r,rfl,h.1,h.2⟩
theorem zne{t:It}(r:List It)(h:t.sort=1):zal (t :: r)=zal r:=by simp [zal,h]
theorem zke{t:It}(r:List It)(h:t.sort=2):zal (t :: r)=t :: zal r:=by simp [zal,h]
theorem zow{L:List Said}(hw:WfAll L){i:Nat}(hi:i<L.length)(h0:¬L[i].kind=0)(h1:¬L[i].kind=102)(h2:¬L[i].kind=108):L[i].kind=105:=by
 have:=hw.at i hi
 unfold Wf at this;omega
theorem zhh(L:List Said)(hw:WfAll L)(i:Nat)(its:List It)(h:its.map It.key=zam L i)(m:Nat)(it:It)(hm:(zal its)[m]?=some it):
  ∃ j,∃ hj:j<L.length,i≤j∧L[j].kind=105∧it.key=keyQ L[j] ((j:Int)+1)∧cnt L j=cnt L i+m∧NoFn L i j:=by
 by_cases hi:i<L.length
 ·by_cases h1:L[i].kind=102
  ·rw [zcU L i hi h1] at h
   have e:its=[]:=by simpa using h
   subst e;simp [zal] at hm
  ·by_cases h0:L[i].kind=0
   ·rw [zcn L i hi h0] at h
    obtain⟨j,hj,a,b,c,d,e⟩:=zhh L hw (i+1) its h m it hm
    exact⟨j,hj,by omega,b,c,by rw [d,ze8 L i hi (by omega)],.cons (hi:=hi) h1 e⟩
   ·rw [zbK L i hi h0 h1] at h
    obtain⟨t,r,rfl,ht,hr⟩:=ze9 h
    by_cases h2:L[i].kind=108
    ·have hs:t.sort=1:=(congrArg Key.sort ht).trans (zft _ h2)
     rw [zne r hs] at hm
     obtain⟨j,hj,a,b,c,d,e⟩:=zhh L hw (i+1) r hr m it hm
     exact⟨j,hj,by omega,b,c,by rw [d,ze8 L i hi (by omega)],.cons (hi:=hi) h1 e⟩
    ·have h5:=zow hw hi h0 h1 h2
     have hs:t.sort=2:=(congrArg Key.sort ht).trans (zey _ h1 h2)
     rw [zke r hs] at hm
     cases m with
     | zero =>
      have e:t=it:=by simpa using hm
      subst e
      exact⟨i,hi,Nat.le_refl _,h5,ht,rfl,.one (hi:=hi) h1⟩
     | succ m =>
      rw [List.getElem?_cons_succ] at hm
      obtain⟨j,hj,a,b,c,d,e⟩:=zhh L hw (i+1) r hr m it hm
      exact⟨j,hj,by omega,b,c,by rw [d,zhV L i hi h5];omega,.cons (hi:=hi) h1 e⟩
 ·rw [zc7 L i hi] at h
  have e:its=[]:=by simpa using h
  subst e;simp [zal] at hm
termination_by L.length-i
theorem zhW(L:List Said)(hw:WfAll L)(i:Nat)(its:List It)(h:its.map It.key=zam L i)(j:Nat)(hj:j<L.length)(hij:i≤j)(h5:L[j].kind=105)(hno:NoFn L i j):
  ∃ it,(zal its)[cnt L j-cnt L i]?=some it∧it.key=keyQ L[j] ((j:Int)+1):=by
 have hi:i<L.length:=by omega
 have h1:=hno i hi (Nat.le_refl _) hij
 have hno':NoFn L (i+1) j:=fun m hm a b=>hno m hm (by omega) b
 by_cases e0:i=j
 ·subst e0
  rw [zbK L i hi (by omega) h1] at h
  obtain⟨t,r,rfl,ht,hr⟩:=ze9 h
  have hs:t.sort=2:=(congrArg Key.sort ht).trans (zey _ h1 (by omega))
  exact⟨t,by rw [zke r hs,Nat.sub_self];rfl,ht⟩
 ·by_cases h0:L[i].kind=0
  ·rw [zcn L i hi h0] at h
   rw [←ze8 L i hi (by omega)]
   exact zhW L hw (i+1) its h j hj (by omega) h5 hno'
  ·rw [zbK L i hi h0 h1] at h
   obtain⟨t,r,rfl,ht,hr⟩:=ze9 h
   obtain⟨it,hit,hk⟩:=zhW L hw (i+1) r hr j hj (by omega) h5 hno'
   by_cases h2:L[i].kind=108
   ·have hs:t.sort=1:=(congrArg Key.sort ht).trans (zft _ h2)
    rw [zne r hs,←ze8 L i hi (by omega)]
    exact⟨it,hit,hk⟩
   ·have h5':=zow hw hi h0 h1 h2
    have hs:t.sort=2:=(congrArg Key.sort ht).trans (zey _ h1 h2)
    have hle:=zou L (show i+1≤j by omega)
    have hc:=zhV L i hi h5'
    rw [zke r hs,show cnt L j-cnt L i=(cnt L j-cnt L (i+1))+1 by omega]
    exact⟨it,by rw [List.getElem?_cons_succ];exact hit,hk⟩
termination_by L.length-i
theorem zhi(L:List Said)(hw:WfAll L)(x:ByteArray)(i:Nat)(its:List It)(h:its.map It.key=zam L i)(n j:Nat)(hl:zaU L x i=(j:Int)):
  zbO (zbt n its) x=some (n+(cnt L j-cnt L i))∧∃ hj:j<L.length,i≤j∧L[j].kind=108∧NoFn L i j:=by
 by_cases hi:i<L.length
 ·by_cases h1:L[i].kind=102
  ·rw [zfB L x i hi h1] at hl;omega
  ·by_cases h0:L[i].kind=0
   ·rw [zcn L i hi h0] at h
    rw [zbS L x i hi h1 (by simp [zcR,h0])] at hl
    obtain⟨a,hj,b,c,d⟩:=zhi L hw x (i+1) its h n j hl
    exact⟨by rw [a,ze8 L i hi (by omega)],hj,by omega,c,.cons (hi:=hi) h1 d⟩
   ·rw [zbK L i hi h0 h1] at h
    obtain⟨t,r,rfl,ht,hr⟩:=ze9 h
    rw [zco]
    by_cases h2:L[i].kind=108
    ·have hs:t.sort=1:=(congrArg Key.sort ht).trans (zft _ h2)
     have hnm:t.nm=L[i].word 0:=(congrArg Key.nm ht).trans (zjL _ h2)
     rw [if_pos hs]
     by_cases h3:eqW (L[i].word 0) x=true
     ·rw [zcS L x i hi h1 (by simp [zcR,h2,h3])] at hl
      have e:i=j:=by omega
      subst e
      refine⟨?_,hi,Nat.le_refl _,h2,.one (hi:=hi) h1⟩
      unfold zbO
      rw [if_pos (by rw [hnm];exact h3)]
      simp
     ·rw [zbS L x i hi h1 (by simp [zcR,h3])] at hl
      obtain⟨a,hj,b,c,d⟩:=zhi L hw x (i+1) r hr n j hl
      refine⟨?_,hj,by omega,c,.cons (hi:=hi) h1 d⟩
      unfold zbO
      rw [if_neg (by rw [hnm];exact h3),a,ze8 L i hi (by omega)]
    ·have h5:=zow hw hi h0 h1 h2
     have hs:t.sort=2:=(congrArg Key.sort ht).trans (zey _ h1 h2)
     rw [if_neg (by omega)]
     rw [zbS L x i hi h1 (by simp [zcR,h2])] at hl
     obtain⟨a,hj,b,c,d⟩:=zhi L hw x (i+1) r hr (n+1) j hl
     have hle:=zou L b
     have hc:=zhV L i hi h5
     refine⟨?_,hj,by omega,c,.cons (hi:=hi) h1 d⟩
     rw [a]
     congr 1
     omega
 ·rw [zdV L x i hi] at hl;omega
termination_by L.length-i
theorem zlz{F:List FnM}{f:Fn}{b:List Fn}(h:F.map FnM.fn=f :: b):∃ t r,F=t :: r∧t.fn=f∧r.map FnM.fn=b:=by
 cases F with
 | nil=>simp at h
 | cons t r=>simp at h;exact⟨t,r,rfl,h.1,h.2⟩
theorem zeA(f:FnM)(F:List FnM):lenF (f :: F)=(zal f.its).length+lenF F:=by simp [lenF]
theorem zox(L:List Said)(hw:WfAll L)(i:Nat)(its:List It)(h:its.map It.key=zam L i)(F:List FnM)(hF:F.map FnM.fn=zaX L i)(k:Nat)(f:FnM)(hk:F[k]?=some f):
  ∃ o,∃ ho:o<L.length,i≤o∧L[o].kind=102∧f.line=(o:Int)+1∧f.its.map It.key=zam L (o+1)∧cnt L o=cnt L i+(zal its).length+lenF (F.take k):=by
 by_cases hi:i<L.length
 ·by_cases h1:L[i].kind=102
  ·rw [zcU L i hi h1] at h
   have e:its=[]:=by simpa using h
   subst e
   rw [zci L i hi h1] at hF
   obtain⟨t,r,rfl,ht,hr⟩:=zlz hF
   have hb:t.its.map It.key=zam L (i+1):=congrArg Fn.body ht
   have hl:t.line=(i:Int)+1:=congrArg Fn.line ht
   cases k with
   | zero =>
    have e:t=f:=by simpa using hk
    subst e
    exact⟨i,hi,Nat.le_refl _,h1,hl,hb,by simp [zal,lenF]⟩
   | succ k =>
    rw [List.getElem?_cons_succ] at hk
    obtain⟨o,ho,a,b,c,d,e⟩:=zox L hw (i+1) t.its hb r hr k f hk
    exact⟨o,ho,by omega,b,c,d,by rw [e,ze8 L i hi (by omega),List.take_succ_cons,zeA];simp [zal];omega⟩
  ·rw [zbT L i hi h1] at hF
   by_cases h0:L[i].kind=0
   ·rw [zcn L i hi h0] at h
    obtain⟨o,ho,a,b,c,d,e⟩:=zox L hw (i+1) its h F hF k f hk
    exact⟨o,ho,by omega,b,c,d,by rw [e,ze8 L i hi (by omega)]⟩
   ·rw [zbK L i hi h0 h1] at h
    obtain⟨t,r,rfl,ht,hr⟩:=ze9 h
    obtain⟨o,ho,a,b,c,d,e⟩:=zox L hw (i+1) r hr F hF k f hk
    by_cases h2:L[i].kind=108
    ·have hs:t.sort=1:=(congrArg Key.sort ht).trans (zft _ h2)
     exact⟨o,ho,by omega,b,c,d,by rw [e,ze8 L i hi (by omega),zne r hs]⟩
    ·have h5:=zow hw hi h0 h1 h2
     have hs:t.sort=2:=(congrArg Key.sort ht).trans (zey _ h1 h2)
     exact⟨o,ho,by omega,b,c,d,by rw [e,zhV L i hi h5,zke r hs,List.length_cons];omega⟩
 ·rw [zcV L i hi] at hF
  have e:F=[]:=by simpa using hF
  subst e;simp at hk
termination_by L.length-i
theorem zkf(L:List Said)(x:ByteArray)(i:Nat)(F:List FnM)(hF:F.map FnM.fn=zaX L i)(n o:Nat)(hl:zaJ L x i=(o:Int)):
  ∃ k f,F[k]?=some f∧zbO (zaR n F) x=some (n+k)∧f.line=(o:Int)+1:=by
 by_cases hi:i<L.length
 ·by_cases h1:L[i].kind=102
  ·rw [zci L i hi h1] at hF
   obtain⟨t,r,rfl,ht,hr⟩:=zlz hF
   have hnm:t.name=L[i].word 1:=congrArg Fn.name ht
   have hln:t.line=(i:Int)+1:=congrArg Fn.line ht
   rw [zdx]
   by_cases h3:eqW (L[i].word 1) x=true
   ·rw [zds L x i hi (by simp [isFn,h1,h3])] at hl
    refine⟨0,t,rfl,?_,by omega⟩
    unfold zbO
    rw [if_pos (by rw [hnm];exact h3)]
    simp
   ·rw [zdf L x i hi (by simp [isFn,h3])] at hl
    obtain⟨k,f,a,b,c⟩:=zkf L x (i+1) r hr (n+1) o hl
    refine⟨k+1,f,by rw [List.getElem?_cons_succ];exact a,?_,c⟩
    unfold zbO
    rw [if_neg (by rw [hnm];exact h3),b]
    congr 1;omega
  ·rw [zbT L i hi h1] at hF
   rw [zdf L x i hi (by simp [isFn,h1])] at hl
   exact zkf L x (i+1) F hF n o hl
 ·rw [zeN L x i hi] at hl;omega
termination_by L.length-i
theorem zhX(L:List Said)(i:Nat)(k:Key)(r:List Key)(h:zbo L i=k :: r)(hs:k.sort=0):zam L i=[]:=by
 by_cases hi:i<L.length
 ·by_cases h0:L[i].kind=0
  ·rw [zdt L i hi h0] at h
   rw [zcn L i hi h0]
   exact zhX L (i+1) k r h hs
  ·rw [zb3 L i hi h0] at h
   have hk:keyQ L[i] ((i:Int)+1)=k:=by injection h
   by_cases h1:L[i].kind=102
   ·exact zcU L i hi h1
   ·exact absurd ((congrArg Key.sort hk).trans hs) (zfu _ h1)
 ·exact zc7 L i hi
termination_by L.length-i
theorem znf(L:List Said)(i:Nat)(k:Key)(r:List Key)(h:zbo L i=k :: r)(hs:k.sort=0):(k :: r).foldl addK []=zaX L i:=by
 by_cases hi:i<L.length
 ·by_cases h0:L[i].kind=0
  ·rw [zdt L i hi h0] at h
   rw [zbT L i hi (by omega)]
   exact znf L (i+1) k r h hs
  ·rw [zb3 L i hi h0] at h
   have hk:keyQ L[i] ((i:Int)+1)=k:=by injection h
   by_cases h1:L[i].kind=102
   ·rw [←h,List.foldl_cons,zc6 _ _ (zex _ h1),zfM,zci L i hi h1]
    simp [keyQ,zgp _ h1]
   ·exact absurd ((congrArg Key.sort hk).trans hs) (zfu _ h1)
 ·rw [zdg L i hi] at h;cases h
termination_by L.length-i
def labM(F:List FnM)(k:Nat)(x:ByteArray):Int:=(lenF (F.take k):Int)+(((match F[k]? with|none=>none|some f=>zbO (zcw f.its) x).getD 0:Nat):Int)
def fnM(F:List FnM)(x:ByteArray):Int:=(lenF (F.take ((zbO (zbu F) x).getD 0)):Int)
def insX(w:ByteArray)(a b c n l f:Int):Ins :=
 if isW w [106,117,109,112]=true then .jump l
 else if isW w [108,101,115,115]=true then .less a.toNat b.toNat l
 else if isW w [115,97,109,101]=true then .same a.toNat b.toNat l
 else if isW w [99,97,108,108]=true then .call f
 else if isW w [98,97,99,107]=true then .back
 else if isW w [115,116,111,112]=true then .stop
 else if isW w [115,101,116]=true then .set a.toNat n
 else if isW w [109,111,118]=true then .mov a.toNat b.toNat
 else if isW w [97,100,100]=true then .alu 0 a.toNat b.toNat c.toNat
 else if isW w [115,117,98]=true then .alu 1 a.toNat b.toNat c.toNat
 else if isW w [109,117,108]=true then .alu 2 a.toNat b.toNat c.toNat
 else if isW w [105,110,99]=true then .inc a.toNat n
 else if isW w [108,111,97,100]=true then .load a.toNat b.toNat
 else if isW w [115,116,111,114,101]=true then .store a.toNat b.toNat
 else if isW w [114,101,97,100]=true then .read a.toNat
 else .write a.toNat
def insM(F:List FnM)(k:Nat)(i:It):Ins:=insX i.word i.a i.b i.c i.n (labM F k i.nm) (fnM F i.nm)
theorem zoy(a b c n l f:Int):insX ⟨#[115,101,116]⟩ a b c n l f=.set a.toNat n:=by kernel_rfl
theorem zoz(a b c n l f:Int):insX ⟨#[105,110,99]⟩ a b c n l f=.inc a.toNat n:=by kernel_rfl
theorem zo0(a b c n l f:Int):insX ⟨#[109,111,118]⟩ a b c n l f=.mov a.toNat b.toNat:=by kernel_rfl
theorem zl0(a b c n l f:Int):insX ⟨#[108,111,97,100]⟩ a b c n l f=.load a.toNat b.toNat:=by kernel_rfl
theorem zjo(a b c n l f:Int):insX ⟨#[115,116,111,114,101]⟩ a b c n l f=.store a.toNat b.toNat:=by kernel_rfl
theorem zo1(a b c n l f:Int):insX ⟨#[97,100,100]⟩ a b c n l f=.alu 0 a.toNat b.toNat c.toNat:=by kernel_rfl
theorem zo2(a b c n l f:Int):insX ⟨#[115,117,98]⟩ a b c n l f=.alu 1 a.toNat b.toNat c.toNat:=by kernel_rfl
theorem zo3(a b c n l f:Int):insX ⟨#[109,117,108]⟩ a b c n l f=.alu 2 a.toNat b.toNat c.toNat:=by kernel_rfl
theorem zl1(a b c n l f:Int):insX ⟨#[114,101,97,100]⟩ a b c n l f=.read a.toNat:=by kernel_rfl
theorem zjp(a b c n l f:Int):insX ⟨#[119,114,105,116,101]⟩ a b c n l f=.write a.toNat:=by kernel_rfl
theorem zl2(a b c n l f:Int):insX ⟨#[106,117,109,112]⟩ a b c n l f=.jump l:=by kernel_rfl
theorem zl3(a b c n l f:Int):insX ⟨#[99,97,108,108]⟩ a b c n l f=.call f:=by kernel_rfl
theorem zl4(a b c n l f:Int):insX ⟨#[108,101,115,115]⟩ a b c n l f=.less a.toNat b.toNat l:=by kernel_rfl
theorem zl5(a b c n l f:Int):insX ⟨#[115,97,109,101]⟩ a b c n l f=.same a.toNat b.toNat l:=by kernel_rfl
theorem zhY(a b c n l f:Int):insX ⟨#[98,97,99,107]⟩ a b c n l f=.back:=by kernel_rfl
theorem zl6(a b c n l f:Int):insX ⟨#[115,116,111,112]⟩ a b c n l f=.stop:=by kernel_rfl
theorem zsJ(x1 x2:ByteArray)(ok:Bool):opQ ⟨105,[⟨#[115,101,116]⟩,x1,x2],ok⟩=⟨⟨#[]⟩,zaD x1,0,0,zcO x2⟩:=by kernel_rfl
theorem zsK(x1 x2:ByteArray)(ok:Bool):opQ ⟨105,[⟨#[105,110,99]⟩,x1,x2],ok⟩=⟨⟨#[]⟩,zaD x1,0,0,zcO x2⟩:=by kernel_rfl
theorem zsL(x1 x2:ByteArray)(ok:Bool):opQ ⟨105,[⟨#[109,111,118]⟩,x1,x2],ok⟩=⟨⟨#[]⟩,zaD x1,zaD x2,0,0⟩:=by kernel_rfl
theorem zo4(x1 x2:ByteArray)(ok:Bool):opQ ⟨105,[⟨#[108,111,97,100]⟩,x1,x2],ok⟩=⟨⟨#[]⟩,zaD x1,zaD x2,0,0⟩:=by kernel_rfl
theorem zl7(x1 x2:ByteArray)(ok:Bool):opQ ⟨105,[⟨#[115,116,111,114,101]⟩,x1,x2],ok⟩=⟨⟨#[]⟩,zaD x1,zaD x2,0,0⟩:=by kernel_rfl
theorem zsM(x1 x2 x3:ByteArray)(ok:Bool):opQ ⟨105,[⟨#[97,100,100]⟩,x1,x2,x3],ok⟩=⟨⟨#[]⟩,zaD x1,zaD x2,zaD x3,0⟩:=by kernel_rfl
theorem zsN(x1 x2 x3:ByteArray)(ok:Bool):opQ ⟨105,[⟨#[115,117,98]⟩,x1,x2,x3],ok⟩=⟨⟨#[]⟩,zaD x1,zaD x2,zaD x3,0⟩:=by kernel_rfl
theorem zsO(x1 x2 x3:ByteArray)(ok:Bool):opQ ⟨105,[⟨#[109,117,108]⟩,x1,x2,x3],ok⟩=⟨⟨#[]⟩,zaD x1,zaD x2,zaD x3,0⟩:=by kernel_rfl
theorem zo5(x1:ByteArray)(ok:Bool):opQ ⟨105,[⟨#[114,101,97,100]⟩,x1],ok⟩=⟨⟨#[]⟩,zaD x1,0,0,0⟩:=by kernel_rfl
theorem zl8(x1:ByteArray)(ok:Bool):opQ ⟨105,[⟨#[119,114,105,116,101]⟩,x1],ok⟩=⟨⟨#[]⟩,zaD x1,0,0,0⟩:=by kernel_rfl
theorem zjq(x1:ByteArray)(ok:Bool):zd9 ⟨105,[⟨#[106,117,109,112]⟩,x1],ok⟩=x1:=by kernel_rfl
theorem zjr(x1:ByteArray)(ok:Bool):zd9 ⟨105,[⟨#[99,97,108,108]⟩,x1],ok⟩=x1:=by kernel_rfl
theorem zo6(x1 x2 x3:ByteArray)(ok:Bool):opQ ⟨105,[⟨#[108,101,115,115]⟩,x1,x2,x3],ok⟩=⟨x3,zaD x1,zaD x2,0,0⟩:=by kernel_rfl
theorem zjs(x1 x2 x3:ByteArray)(ok:Bool):zd9 ⟨105,[⟨#[108,101,115,115]⟩,x1,x2,x3],ok⟩=x3:=by kernel_rfl
theorem zo7(x1 x2 x3:ByteArray)(ok:Bool):opQ ⟨105,[⟨#[115,97,109,101]⟩,x1,x2,x3],ok⟩=⟨x3,zaD x1,zaD x2,0,0⟩:=by kernel_rfl
theorem zjt(x1 x2 x3:ByteArray)(ok:Bool):zd9 ⟨105,[⟨#[115,97,109,101]⟩,x1,x2,x3],ok⟩=x3:=by kernel_rfl
theorem zax(x:ByteArray):(zaD x).toNat=regN x:=by
 unfold zaD regN
 split
 ·rfl
 ·rename_i h;have:reg x<0:=by omega
  rw [show(reg x).toNat=0 from Int.toNat_of_nonpos (by omega)];rfl
theorem zl9(x:ByteArray)(h:(zaE x).2=true):zcO x=(zaE x).1:=if_pos h
def Goes(N:Nat):Ins→Prop
 | .jump to=>InC N to
 | .less _ _ to=>InC N to
 | .same _ _ to=>InC N to
 | .call to=>InC N to
 | _=>True
def Ends:Ins→Prop
 | .jump _=>True
 | .back=>True
 | .stop=>True
 | _=>False
theorem zvu(q:Said)(h5:q.kind=105)(Fm:Form q.kept)(it:It)(line:Int)(hkey:it.key=keyQ q line)(F:List FnM)(k:Nat)(L:List Said)(j N:Nat)(f:Int→Int)
  (hlab:zaF (q.word 0)=true→f (labM F k q.last)=zeq L j q.last∧InC N (labM F k q.last))
  (hfn:zcs (q.word 0)=true→f (fnM F q.last)=fnTo L q.last∧InC N (fnM F q.last)) :
  insQ L j q=zly f (insM F k it)∧zgW (insM F k it)∧Goes N (insM F k it)∧(ends (q.word 0)=false∨Ends (insM F k it)):=by
 have ew:it.word=zew q:=congrArg Key.word hkey
 have ea:it.a=(opQ q).a:=congrArg Key.a hkey
 have eb:it.b=(opQ q).b:=congrArg Key.b hkey
 have ec:it.c=(opQ q).c:=congrArg Key.c hkey
 have en:it.n=(opQ q).n:=congrArg Key.n hkey
 have em:it.nm=zd9 q:=congrArg Key.nm hkey
 clear hkey
 obtain⟨kd,kp,ok⟩:=q
 simp only at h5 Fm
 subst h5
 unfold insM
 cases Fm with
 | set_ x1 x2 hx1 hx2 =>
  have e0:it.word=⟨#[115,101,116]⟩:=ew
  rw [zsJ] at ea eb ec en
  rw [e0,zoy,ea,en,zog L j ⟨105,[⟨#[115,101,116]⟩,x1,x2],ok⟩ x1 x2 rfl]
  have r1:=(zaq x1 hx1).1
  simp only [zax x1,zl9 x2 hx2]
  exact⟨rfl,r1,trivial,.inl (by kernel_rfl)⟩
 | inc_ x1 x2 hx1 hx2 =>
  have e0:it.word=⟨#[105,110,99]⟩:=ew
  rw [zsK] at ea eb ec en
  rw [e0,zoz,ea,en,zol L j ⟨105,[⟨#[105,110,99]⟩,x1,x2],ok⟩ x1 x2 rfl]
  have r1:=(zaq x1 hx1).1
  simp only [zax x1,zl9 x2 hx2]
  exact⟨rfl,r1,trivial,.inl (by kernel_rfl)⟩
 | mov_ x1 x2 hx1 hx2 =>
  have e0:it.word=⟨#[109,111,118]⟩:=ew
  rw [zsL] at ea eb ec en
  rw [e0,zo0,ea,eb,zoh L j ⟨105,[⟨#[109,111,118]⟩,x1,x2],ok⟩ x1 x2 rfl]
  have r1:=(zaq x1 hx1).1
  have r2:=(zaq x2 hx2).1
  simp only [zax x1,zax x2]
  exact⟨rfl,⟨r1,r2⟩,trivial,.inl (by kernel_rfl)⟩
 | load_ x1 x2 hx1 hx2 =>
  have e0:it.word=⟨#[108,111,97,100]⟩:=ew
  rw [zo4] at ea eb ec en
  rw [e0,zl0,ea,eb,zll L j ⟨105,[⟨#[108,111,97,100]⟩,x1,x2],ok⟩ x1 x2 rfl]
  have r1:=(zaq x1 hx1).1
  have r2:=(zaq x2 hx2).1
  simp only [zax x1,zax x2]
  exact⟨rfl,⟨r1,r2⟩,trivial,.inl (by kernel_rfl)⟩
 | store_ x1 x2 hx1 hx2 =>
  have e0:it.word=⟨#[115,116,111,114,101]⟩:=ew
  rw [zl7] at ea eb ec en
  rw [e0,zjo,ea,eb,zjh L j ⟨105,[⟨#[115,116,111,114,101]⟩,x1,x2],ok⟩ x1 x2 rfl]
  have r1:=(zaq x1 hx1).1
  have r2:=(zaq x2 hx2).1
  simp only [zax x1,zax x2]
  exact⟨rfl,⟨r1,r2⟩,trivial,.inl (by kernel_rfl)⟩
 | add_ x1 x2 x3 hx1 hx2 hx3 =>
  have e0:it.word=⟨#[97,100,100]⟩:=ew
  rw [zsM] at ea eb ec en
  rw [e0,zo1,ea,eb,ec,zoi L j ⟨105,[⟨#[97,100,100]⟩,x1,x2,x3],ok⟩ x1 x2 x3 rfl]
  have r1:=(zaq x1 hx1).1
  have r2:=(zaq x2 hx2).1
  have r3:=(zaq x3 hx3).1
  simp only [zax x1,zax x2,zax x3]
  exact⟨rfl,⟨by decide,r1,r2,r3⟩,trivial,.inl (by kernel_rfl)⟩
 | sub_ x1 x2 x3 hx1 hx2 hx3 =>
  have e0:it.word=⟨#[115,117,98]⟩:=ew
  rw [zsN] at ea eb ec en
  rw [e0,zo2,ea,eb,ec,zoj L j ⟨105,[⟨#[115,117,98]⟩,x1,x2,x3],ok⟩ x1 x2 x3 rfl]
  have r1:=(zaq x1 hx1).1
  have r2:=(zaq x2 hx2).1
  have r3:=(zaq x3 hx3).1
  simp only [zax x1,zax x2,zax x3]
  exact⟨rfl,⟨by decide,r1,r2,r3⟩,trivial,.inl (by kernel_rfl)⟩
 | mul_ x1 x2 x3 hx1 hx2 hx3 =>
  have e0:it.word=⟨#[109,117,108]⟩:=ew
  rw [zsO] at ea eb ec en
  rw [e0,zo3,ea,eb,ec,zok L j ⟨105,[⟨#[109,117,108]⟩,x1,x2,x3],ok⟩ x1 x2 x3 rfl]
  have r1:=(zaq x1 hx1).1
  have r2:=(zaq x2 hx2).1
  have r3:=(zaq x3 hx3).1
  simp only [zax x1,zax x2,zax x3]
  exact⟨rfl,⟨by decide,r1,r2,r3⟩,trivial,.inl (by kernel_rfl)⟩
 | read_ x1 hx1 =>
  have e0:it.word=⟨#[114,101,97,100]⟩:=ew
  rw [zo5] at ea eb ec en
  rw [e0,zl1,ea,zlm L j ⟨105,[⟨#[114,101,97,100]⟩,x1],ok⟩ x1 rfl]
  have r1:=(zaq x1 hx1).1
  simp only [zax x1]
  exact⟨rfl,r1,trivial,.inl (by kernel_rfl)⟩
 | write_ x1 hx1 =>
  have e0:it.word=⟨#[119,114,105,116,101]⟩:=ew
  rw [zl8] at ea eb ec en
  rw [e0,zjp,ea,zji L j ⟨105,[⟨#[119,114,105,116,101]⟩,x1],ok⟩ x1 rfl]
  have r1:=(zaq x1 hx1).1
  simp only [zax x1]
  exact⟨rfl,r1,trivial,.inl (by kernel_rfl)⟩
 | jump_ x1 hx1 =>
  have e0:it.word=⟨#[106,117,109,112]⟩:=ew
  rw [zjq] at em
  rw [e0,zl2,em,zlf L j ⟨105,[⟨#[106,117,109,112]⟩,x1],ok⟩ x1 rfl]
  obtain⟨g1,g2⟩:=hlab (by kernel_rfl)
  have g1':f (labM F k x1)=zeq L j x1:=g1
  exact⟨by simp only [zly];rw [g1'],trivial,g2,.inr trivial⟩
 | call_ x1 hx1 =>
  have e0:it.word=⟨#[99,97,108,108]⟩:=ew
  rw [zjr] at em
  rw [e0,zl3,em,zli L j ⟨105,[⟨#[99,97,108,108]⟩,x1],ok⟩ x1 rfl]
  obtain⟨g1,g2⟩:=hfn (by kernel_rfl)
  have g1':f (fnM F x1)=fnTo L x1:=g1
  exact⟨by simp only [zly];rw [g1'],trivial,g2,.inl (by kernel_rfl)⟩
 | less_ x1 x2 x3 hx1 hx2 hx3 =>
  have e0:it.word=⟨#[108,101,115,115]⟩:=ew
  rw [zo6] at ea eb ec en
  rw [zjs] at em
  rw [e0,zl4,ea,eb,em,zlg L j ⟨105,[⟨#[108,101,115,115]⟩,x1,x2,x3],ok⟩ x1 x2 x3 rfl]
  have r1:=(zaq x1 hx1).1
  have r2:=(zaq x2 hx2).1
  simp only [zax x1,zax x2]
  obtain⟨g1,g2⟩:=hlab (by kernel_rfl)
  have g1':f (labM F k x3)=zeq L j x3:=g1
  exact⟨by simp only [zly];rw [g1'],⟨r1,r2⟩,g2,.inl (by kernel_rfl)⟩
 | same_ x1 x2 x3 hx1 hx2 hx3 =>
  have e0:it.word=⟨#[115,97,109,101]⟩:=ew
  rw [zo7] at ea eb ec en
  rw [zjt] at em
  rw [e0,zl5,ea,eb,em,zlh L j ⟨105,[⟨#[115,97,109,101]⟩,x1,x2,x3],ok⟩ x1 x2 x3 rfl]
  have r1:=(zaq x1 hx1).1
  have r2:=(zaq x2 hx2).1
  simp only [zax x1,zax x2]
  obtain⟨g1,g2⟩:=hlab (by kernel_rfl)
  have g1':f (labM F k x3)=zeq L j x3:=g1
  exact⟨by simp only [zly];rw [g1'],⟨r1,r2⟩,g2,.inl (by kernel_rfl)⟩
 | back_  =>
  have e0:it.word=⟨#[98,97,99,107]⟩:=ew
  rw [e0,zhY,zlj L j ⟨105,[⟨#[98,97,99,107]⟩],ok⟩  rfl]
  exact⟨rfl,trivial,trivial,.inr trivial⟩
 | stop_  =>
  have e0:it.word=⟨#[115,116,111,112]⟩:=ew
  rw [e0,zl6,zlk L j ⟨105,[⟨#[115,116,111,112]⟩],ok⟩  rfl]
  exact⟨rfl,trivial,trivial,.inr trivial⟩
end Go.Proofs.YtfpgjkbjbbgciaaGreatDoor
namespace Go.Proofs.YtfpgjkbjbbgciaaGreatDoor
open Sp
def zeX(F:List FnM)(k:Nat)(l:List It):List (Ins × Int):=l.map (fun i=>(insM F k i,i.line))
def zcI(F:List FnM):Nat→List FnM→List (Ins × Int)
 | _,[]=>[]
 | k,f :: r=>zeX F k (zal f.its)++zcI F (k+1) r
def zat(F:List FnM):List (Ins × Int):=zcI F 0 F
theorem zlA(F:List FnM)(k:Nat)(R:List FnM):(zcI F k R).length=lenF R:=by
 induction R generalizing k with
 | nil=>rfl
 | cons f R ih=>rw [zeA,zcI,List.length_append,ih];simp [zeX]
theorem zdN(F:List FnM):(zat F).length=lenF F:=zlA F 0 F
theorem zfU(F:List FnM)(n:Nat)(R:List FnM)(k:Nat)(f:FnM)(hk:R[k]?=some f)(m:Nat)(it:It)(hm:(zal f.its)[m]?=some it):
  (zcI F n R)[lenF (R.take k)+m]?=some (insM F (n+k) it,it.line):=by
 induction R generalizing n k with
 | nil=>simp at hk
 | cons g R ih =>
  have hl:(zeX F n (zal g.its)).length=(zal g.its).length:=by simp [zeX]
  cases k with
  | zero =>
   have e:g=f:=by simpa using hk
   subst e
   have hlt:m<(zal g.its).length:=(List.getElem?_eq_some_iff.1 hm).1
   rw [zcI,List.take_zero,show lenF []+m=m by simp [lenF],List.getElem?_append_left (by omega)]
   unfold zeX
   rw [List.getElem?_map,hm]
   rfl
  | succ k =>
   rw [List.getElem?_cons_succ] at hk
   rw [zcI,List.take_succ_cons,zeA,List.getElem?_append_right (by omega),hl]
   rw [show(zal g.its).length+lenF (R.take k)+m-(zal g.its).length=lenF (R.take k)+m by omega,ih (n+1) k hk]
   rw [show n+1+k=n+(k+1) by omega]
theorem zkg(R:List FnM)(p:Nat)(hp:p<lenF R):∃ k f m it,R[k]?=some f∧(zal f.its)[m]?=some it∧p=lenF (R.take k)+m:=by
 induction R generalizing p with
 | nil=>simp [lenF] at hp
 | cons g R ih =>
  rw [zeA] at hp
  by_cases h:p<(zal g.its).length
  ·exact⟨0,g,p,(zal g.its)[p],rfl,List.getElem?_eq_getElem h,by simp [lenF]⟩
  ·obtain⟨k,f,m,it,a,b,c⟩:=ih (p-(zal g.its).length) (by omega)
   exact⟨k+1,f,m,it,by rw [List.getElem?_cons_succ];exact a,b,by rw [List.take_succ_cons,zeA];omega⟩
structure Right(L:List Said)(F:List FnM):Prop where
 good:Good L
 first:zam L 0=[]
 fns:F.map FnM.fn=zaX L 0
 some_:0<F.length
def zg1(C:List (Ins × Int))(z:Int):Int:=(C[z.toNat]?.map (·.2)).getD 0-1
theorem zo8{C:List (Ins × Int)}{p:Nat}{q:Ins × Int}(h:C[p]?=some q):zg1 C (p:Int)=q.2-1:=by
 unfold zg1;rw [Int.toNat_natCast,h];rfl
theorem zvv(L:List Said)(o d:Nat)(ho:o<L.length)(h1:L[o].kind=102)(hd:o+d<L.length)(hno:NoFn L (o+1) (o+d)):zcm L (o+d)=(o:Int):=by
 induction d with
 | zero=>exact zfC L o ho h1
 | succ d ih =>
  rw [show o+(d+1)=o+d+1 by omega,zdH L (o+d) hd (hno _ hd (by omega) (Nat.le_refl _))]
  exact ih (by omega) (fun m hm a b=>hno m hm a (by omega))
theorem zvw(L:List Said){o j:Nat}(ho:o<L.length)(h1:L[o].kind=102)(hoj:o≤j)(hj:j<L.length)(hno:NoFn L (o+1) j)(x:ByteArray):zbZ L j x=zaU L x (o+1):=by
 obtain⟨d,rfl⟩:=Nat.exists_eq_add_of_le hoj
 unfold zbZ
 rw [zvv L o d ho h1 hj hno]
 congr 1
theorem zvx{i:Ins}(h:Ends i)(h1:∀ to,i≠.jump to)(h2:i≠.back)(h3:i≠.stop):False:=by
 cases i <;> first|exact absurd rfl (h1 _)|exact h2 rfl|exact h3 rfl|exact h
namespace Right
variable {L:List Said} {F:List FnM}
theorem wf(R:Right L F):WfAll L:=fun q hq=>by
 obtain⟨k,hk,rfl⟩:=List.mem_iff_getElem.1 hq
 exact R.good.wf k hk
theorem fn_at(R:Right L F){k:Nat}{f:FnM}(hk:F[k]?=some f):∃ o,∃ ho:o<L.length,L[o].kind=102∧f.line=(o:Int)+1∧f.its.map It.key=zam L (o+1)∧cnt L (o+1)=lenF (F.take k):=by
 obtain⟨o,ho,_,b,c,d,e⟩:=zox L R.wf 0 [] (by rw [R.first];rfl) F R.fns k f hk
 refine⟨o,ho,b,c,d,?_⟩
 rw [ze8 L o ho (by omega),e];simp [cnt,zal]
theorem place(R:Right L F){k o:Nat}{f:FnM}(hk:F[k]?=some f)(hb:f.its.map It.key=zam L (o+1))(hc:cnt L (o+1)=lenF (F.take k)){j:Nat}(hj:j<L.length)(hoj:o+1≤j)(h5:L[j].kind=105)(hno:NoFn L (o+1) j):
  ∃ it,(zat F)[cnt L j]?=some (insM F k it,it.line)∧it.key=keyQ L[j] ((j:Int)+1):=by
 obtain⟨it,a,b⟩:=zhW L R.wf (o+1) f.its hb j hj hoj h5 hno
 refine⟨it,?_,b⟩
 have:=zfU F 0 F k f hk _ it a
 rw [←hc,Nat.zero_add] at this
 have hle:=zou L hoj
 rw [show cnt L (o+1)+(cnt L j-cnt L (o+1))=cnt L j by omega] at this
 exact this
theorem next(R:Right L F){k o:Nat}{f:FnM}(hk:F[k]?=some f)(hb:f.its.map It.key=zam L (o+1))(hc:cnt L (o+1)=lenF (F.take k)){i:Nat}(hoi:o+1≤i)(hno:NoFn L (o+1) (i-1))(hn:zcX L (zad L i)):
  cnt L i<(zat F).length∧zg1 (zat F) (cnt L i:Int)=zad L i:=by
 obtain⟨j,hn,_,_⟩:=hn
 obtain⟨hj,hij,h5,hcj,hnf⟩:=zov L i j hn
 obtain⟨it,ha,hkey⟩:=R.place hk hb hc hj (by omega) h5 (hno.trans hnf (by omega))
 rw [hcj] at ha
 refine⟨(List.getElem?_eq_some_iff.1 ha).1,?_⟩
 rw [zo8 ha,hn]
 have:it.line=(j:Int)+1:=congrArg Key.line hkey
 show it.line-1=_
 omega
theorem label(R:Right L F){k o:Nat}{f:FnM}(hk:F[k]?=some f)(hb:f.its.map It.key=zam L (o+1))(hc:cnt L (o+1)=lenF (F.take k)){x:ByteArray}(hx:0≤zaU L x (o+1)):
  ∃ p:Nat,zbO (zcw f.its) x=some p∧labM F k x=((lenF (F.take k)+p:Nat):Int)∧lenF (F.take k)+p<(zat F).length∧zg1 (zat F) (labM F k x)=zad L (zaU L x (o+1)).toNat:=by
 obtain⟨j,hj0⟩:=Int.eq_ofNat_of_zero_le hx
 obtain⟨a,hj,hoj,h8,hno⟩:=zhi L R.wf x (o+1) f.its hb 0 j hj0
 rw [Nat.zero_add] at a
 have hle:=zou L hoj
 have hl:labM F k x=((lenF (F.take k)+(cnt L j-cnt L (o+1)):Nat):Int):=by
  unfold labM
  rw [hk]
  show(lenF (F.take k):Int)+(((zbO (zcw f.its) x).getD 0:Nat):Int)=_
  rw [a];simp
 have hp:lenF (F.take k)+(cnt L j-cnt L (o+1))=cnt L j:=by omega
 obtain⟨q1,q2⟩:=R.next hk hb hc hoj (fun m hm a b=>hno m hm a (by omega)) (R.good.lab j hj h8)
 refine⟨_,a,hl,by rw [hp];exact q1,?_⟩
 rw [hl,hp,q2,hj0]
 rfl
theorem function(R:Right L F){x:ByteArray}(hx:0≤zaJ L x 0):
  ∃ k,∃ _:k<F.length,zbO (zbu F) x=some k∧fnM F x=(lenF (F.take k):Int)∧lenF (F.take k)<(zat F).length∧zg1 (zat F) (fnM F x)=fnTo L x:=by
 obtain⟨o,ho0⟩:=Int.eq_ofNat_of_zero_le hx
 obtain⟨k,f,hk,hfind,hline⟩:=zkf L x 0 F R.fns 0 o ho0
 rw [Nat.zero_add] at hfind
 obtain⟨o',ho,h1,hl',hb,hc⟩:=R.fn_at hk
 have e:o'=o:=by omega
 subst e
 have hm:fnM F x=(lenF (F.take k):Int):=by unfold fnM;rw [hfind];rfl
 obtain⟨q1,q2⟩:=R.next hk hb hc (Nat.le_refl _) (fun m hm a b=>by omega) (R.good.fn o' ho h1)
 refine⟨k,(List.getElem?_eq_some_iff.1 hk).1,hfind,hm,by rw [←hc];exact q1,?_⟩
 rw [hm,←hc,q2]
 unfold fnTo
 rw [ho0]
 congr 1
theorem asks_l(R:Right L F){j:Nat}(hj:j<L.length)(h5:L[j].kind=105)(ha:zaF (L[j].word 0)=true):0≤zbZ L j L[j].last:=by
 have:=R.good.miss j hj
 unfold zaG at this
 rw [List.getElem?_eq_getElem hj] at this
 simp only [h5,if_true,ha] at this
 simpa using this
theorem asks_f(R:Right L F){j:Nat}(hj:j<L.length)(h5:L[j].kind=105)(ha:zcs (L[j].word 0)=true):0≤zaJ L L[j].last 0:=by
 have:=R.good.miss j hj
 have hl:zaF (L[j].word 0)=false:=by
  cases h:zaF (L[j].word 0) with
  | false=>rfl
  | true=>rw [zhE _ h] at ha;cases ha
 unfold zaG at this
 rw [List.getElem?_eq_getElem hj] at this
 simp only [h5,if_true,ha,hl] at this
 simpa using this
theorem it_at(R:Right L F){k m:Nat}{f:FnM}{it:It}(hk:F[k]?=some f)(hm:(zal f.its)[m]?=some it):
  ∃ j,∃ hj:j<L.length,L[j].kind=105∧it.key=keyQ L[j] ((j:Int)+1)∧lenF (F.take k)+m=cnt L j ∧
   (zaF (L[j].word 0)=true→∃ p:Nat,zbO (zcw f.its) L[j].last=some p∧labM F k L[j].last=((lenF (F.take k)+p:Nat):Int)∧lenF (F.take k)+p<(zat F).length∧zg1 (zat F) (labM F k L[j].last)=zeq L j L[j].last) ∧
   (zcs (L[j].word 0)=true→∃ k2,∃ _:k2<F.length,zbO (zbu F) L[j].last=some k2∧fnM F L[j].last=(lenF (F.take k2):Int)∧lenF (F.take k2)<(zat F).length∧zg1 (zat F) (fnM F L[j].last)=fnTo L L[j].last) ∧
   (ends (L[j].word 0)=false→cnt L j+1<(zat F).length∧zg1 (zat F) ((cnt L j+1:Nat):Int)=zad L (j+1)):=by
 obtain⟨o,ho,h1,_,hb,hc⟩:=R.fn_at hk
 obtain⟨j,hj,hoj,h5,hkey,hcj,hno⟩:=zhh L R.wf (o+1) f.its hb m it hm
 refine⟨j,hj,h5,hkey,by omega,fun ha=>?_,fun ha=>R.function (R.asks_f hj h5 ha),fun he=>?_⟩
 ·have h0:=R.asks_l hj h5 ha
  have e:=zvw L ho h1 (by omega) hj hno L[j].last
  rw [e] at h0
  obtain⟨p,a,b,c,d⟩:=R.label hk hb hc h0
  exact⟨p,a,b,c,by rw [d];unfold zeq;rw [e]⟩
 ·have hv:=R.good.next j hj h5 he
  obtain⟨q1,q2⟩:=R.next hk hb hc (show o+1≤j+1 by omega) (by simpa using hno) hv
  rw [zhV L j hj h5] at q1 q2
  exact⟨q1,q2⟩
theorem at_(R:Right L F){p:Nat}(hp:p<(zat F).length):
  ∃ k it j,∃ hj:j<L.length,(zat F)[p]?=some (insM F k it,it.line)∧it.line=(j:Int)+1∧insQ L j L[j]=zly (zg1 (zat F)) (insM F k it)∧zgW (insM F k it)∧Goes (zat F).length (insM F k it) ∧
   (Ends (insM F k it)∨(p+1<(zat F).length∧zad L (j+1)=zg1 (zat F) ((p:Int)+1))):=by
 rw [zdN] at hp
 obtain⟨k,f,m,it,hk,hm,e⟩:=zkg F p hp
 have hput:=zfU F 0 F k f hk m it hm
 rw [Nat.zero_add,←e] at hput
 obtain⟨j,hj,h5,hkey,hpl,hlab,hfn,hnx⟩:=R.it_at hk hm
 obtain⟨q1,q2,q3,q4⟩:=zvu L[j] h5 (R.good.form j hj h5) it _ hkey F k L j (zat F).length (zg1 (zat F))
  (fun ha=>by obtain⟨p',_,b,c,d⟩:=hlab ha;exact⟨d,_,b,c⟩) (fun ha=>by obtain⟨k2,_,_,b,c,d⟩:=hfn ha;exact⟨d,_,b,c⟩)
 refine⟨k,it,j,hj,hput,congrArg Key.line hkey,q1,q2,q3,?_⟩
 rcases q4 with q4|q4
 ·obtain⟨a,b⟩:=hnx q4
  have hp':p=cnt L j:=by omega
  exact .inr ⟨by omega,by rw [←b,hp'];rfl⟩
 ·exact .inl q4
theorem sim(R:Right L F):SimOk L (zat F) (zg1 (zat F)):=⟨fun p hp=>by
 obtain⟨k,it,j,hj,hput,hl,hq,_,_,hn⟩:=R.at_ hp
 have e:(zat F)[p]=(insM F k it,it.line):=(List.getElem?_eq_some_iff.1 hput).2
 refine⟨j,by rw [zo8 hput];show it.line-1=_;omega,hj,by rw [e];exact hq,by rw [e];exact hl,?_⟩
 rw [e]
 intro _ _ h1 h2 h3
 rcases hn with hn|hn
 ·exact(zvx hn h1 h2 h3).elim
 ·exact hn.2⟩
theorem codeOk(R:Right L F):CodeOk (zat F):=by
 refine⟨?_,?_,fun p hp=>?_,fun p hp=>?_⟩
 ·obtain⟨f,hf⟩:∃ f,F[0]?=some f:=⟨F[0]'R.some_,List.getElem?_eq_getElem R.some_⟩
  obtain⟨o,ho,h1,_,hb,hc⟩:=R.fn_at hf
  exact Nat.lt_of_le_of_lt (Nat.zero_le _) (R.next hf hb hc (Nat.le_refl _) (fun m hm a b=>by omega) (R.good.fn o ho h1)).1
 ·by_cases h:0<(zat F).length
  ·obtain⟨k,f,m,it,hk,hm,e⟩:=zkg F ((zat F).length-1) (by rw [←zdN];omega)
   obtain⟨j,hj,_,_,hpl,_⟩:=R.it_at hk hm
   have:=zxm L j
   have:=R.good.few
   omega
  ·omega
 ·obtain⟨k,it,j,hj,hput,hl,hq,h4,_⟩:=R.at_ hp
  have e:(zat F)[p]=(insM F k it,it.line):=(List.getElem?_eq_some_iff.1 hput).2
  rw [e];exact h4
 ·obtain⟨k,it,j,hj,hput,hl,hq,h4,h5,hn⟩:=R.at_ hp
  have e:(zat F)[p]=(insM F k it,it.line):=(List.getElem?_eq_some_iff.1 hput).2
  rw [e]
  show zs4 _ _ (insM F k it)
  revert hn h5
  generalize insM F k it=i
  intro h5 hn
  cases i <;> first|trivial|exact h5|(rcases hn with hn|hn;exact False.elim hn;first|exact hn.1|exact⟨h5,hn.1⟩)
end Right
theorem zo9(L:List Said)(i:Nat)(f:Fn)(r:List Fn)(h:zaX L i=f :: r):f.line=(zc3 L i:Int)+1:=by
 by_cases hi:i<L.length
 ·by_cases h1:L[i].kind=102
  ·rw [zci L i hi h1] at h
   rw [zc3,dif_pos hi,if_pos h1]
   injection h with h _
   rw [←h]
  ·rw [zbT L i hi h1] at h
   rw [zc3,dif_pos hi,if_neg h1]
   exact zo9 L (i+1) f r h
 ·rw [zcV L i hi] at h;cases h
termination_by L.length-i
theorem Right.begin{L:List Said}{F:List FnM}(R:Right L F)(inp:List Int):ze4 L inp=lift (zg1 (zat F)) (zdo inp):=by
 obtain⟨f,hf⟩:∃ f,F[0]?=some f:=⟨F[0]'R.some_,List.getElem?_eq_getElem R.some_⟩
 obtain⟨o,ho,h1,hl,hb,hc⟩:=R.fn_at hf
 obtain⟨q1,q2⟩:=R.next hf hb hc (Nat.le_refl _) (fun m hm a b=>by omega) (R.good.fn o ho h1)
 have hfn:=R.fns
 cases F with
 | nil=>simp at hf
 | cons g r =>
  have e:g=f:=by simpa using hf
  subst e
  have h2:=zo9 L 0 g.fn (r.map FnM.fn) (by rw [←hfn];rfl)
  have h3:zc3 L 0=o:=by
   have:g.fn.line=g.line:=rfl
   omega
  rw [hc] at q2
  unfold ze4
  rw [h3,←q2]
  rfl
end Go.Proofs.YtfpgjkbjbbgciaaGreatDoor
namespace Go.Proofs.YtfpgjkbjbbgciaaGreatDoor
open Go.RowKit Sp
structure PlIn(W:World)(F:List FnM)(bo pm bg:Nat):Prop where
 maps:∀ f∈F,MapIs W f.m (zcw f.its)
 places:MapIs W pm (zbu F)
 begs:∀ k,k<F.length→W.cell? ⟨bg,k,none⟩=some (.int .i64 (lenF (F.take k):Int))
 labs:∀ k (h:k<F.length),W.cell? ⟨bo,k*4+3,none⟩=some (.map (some F[k].m))
theorem PlIn.below{W W':World}{F:List FnM}{bo pm bg B:Nat}(h:PlIn W F bo pm bg)(hb:Below B W W')(hB:W.heap.size≤B):PlIn W' F bo pm bg :=
 ⟨fun f hf=>(h.maps f hf).below hb (Nat.lt_of_lt_of_le (h.maps f hf).lt hB),h.places.below hb (Nat.lt_of_lt_of_le h.places.lt hB),
  fun k hk=>(hb.cell (p:=⟨bg,k,none⟩) (Nat.lt_of_lt_of_le (World.block_lt_of_cell? W _ (h.begs k hk)) hB)).trans (h.begs k hk),
  fun k hk=>(hb.cell (p:=⟨bo,k*4+3,none⟩) (Nat.lt_of_lt_of_le (World.block_lt_of_cell? W _ (h.labs k hk)) hB)).trans (h.labs k hk)⟩
theorem zlB(F:List FnM)(k:Nat):lenF (F.take k)≤lenF F:=by
 unfold lenF
 conv=>rhs;rw [←List.take_append_drop k F,List.map_append,List.sum_append]
 omega
theorem zay(x:ByteArray):((zaD x).toNat:Int)=zaD x:=by
 unfold zaD
 split
 ·omega
 ·rfl
abbrev zhZ(bo cv pm bg cap n:Nat):Value:=.agg #[.slice (some ⟨bo,0,none⟩) n cv,.map (some pm),.slice (some ⟨bg,0,none⟩) n cap]
theorem zqk{L:List Said}{F:List FnM}(R:Right L F)(w:World){bo pm bg:Nat}(cv cap:Nat)(M:PlIn w F bo pm bg)(hn:F.length≤300){k m:Nat}{f:FnM}{it:It}(hk:F[k]?=some f)(hm:(zal f.its)[m]?=some it)(hsz:it.nm.size≤1048576):
  Calls Tryz.prog 81 #[zhZ bo cv pm bg cap F.length,stm it.sort it.line it.word it.a it.b it.c it.n it.nm,.int .i64 (k:Int)] w fun e w'=>e=.returned (.iface (insT (insM F k it)) (.agg (insA (insM F k it))))∧Below w.heap.size w w':=by
 have hkl:k<F.length:=(List.getElem?_eq_some_iff.1 hk).1
 have hfk:F[k]=f:=(List.getElem?_eq_some_iff.1 hk).2
 obtain⟨j,hj,h5,hkey,_,hlab,hfn,_⟩:=R.it_at hk hm
 have Fm:=R.good.form j hj h5
 have hfew:=R.codeOk.few
 have ew:it.word=zew L[j]:=congrArg Key.word hkey
 have ea:it.a=(opQ L[j]).a:=congrArg Key.a hkey
 have eb:it.b=(opQ L[j]).b:=congrArg Key.b hkey
 have ec:it.c=(opQ L[j]).c:=congrArg Key.c hkey
 have em:it.nm=zd9 L[j]:=congrArg Key.nm hkey
 have hl:zaF (L[j].word 0)=true→it.nm=L[j].last→∀ W,Below w.heap.size w W→Calls Tryz.prog 108 #[zhZ bo cv pm bg cap F.length,.string it.nm,.int .i64 (k:Int)] W fun e w'=>e=.returned (.int .i64 (labM F k it.nm))∧Below W.heap.size W w':=by
  intro ha he W hW
  obtain⟨p,hp,hp1,hp2,_⟩:=hlab ha
  rw [←he] at hp hp1
  have M':=M.below hW (Nat.le_refl _)
  have hmm:=M'.labs k hkl
  rw [hfk] at hmm
  have:=zqh W pm bg k (lenF (F.take k)) p bo cv cap F it.nm f.m (zcw f.its) (M'.maps f (List.mem_of_getElem? hk)) hsz hp (by omega) hkl hn (by omega) (M'.begs k hkl) hmm
  rw [hp1]
  refine this.mono ?_
  rintro e w' ⟨rfl,hb⟩
  exact⟨by simp,hb⟩
 have hf:zcs (L[j].word 0)=true→it.nm=L[j].last→∀ W,Below w.heap.size w W→Calls Tryz.prog 109 #[zhZ bo cv pm bg cap F.length,.string it.nm] W fun e w'=>e=.returned (.int .i64 (fnM F it.nm))∧Below W.heap.size W w':=by
  intro ha he W hW
  obtain⟨k2,hk2,hp,hp1,hp2,_⟩:=hfn ha
  rw [←he] at hp hp1
  have M':=M.below hW (Nat.le_refl _)
  rw [hp1]
  exact zkd W pm bg k2 _ F cap it.nm M'.places hsz hp hk2 hn (M'.begs k2 hk2) bo cv rfl
 clear hlab hfn hkey
 generalize L[j]=q at h5 Fm ew ea eb ec em hl hf
 obtain⟨kd,kp,ok⟩:=q
 simp only at h5 Fm
 subst h5
 unfold insM
 cases Fm with
 | set_ x1 x2 =>
  have e0:it.word=⟨#[115,101,116]⟩:=ew
  rw [zsJ] at ea eb ec
  have na:(it.a.toNat:Int)=it.a:=by rw [ea];exact zay _
  rw [e0,zoy]
  refine(zvl w (some ⟨bo,0,none⟩) (some ⟨bg,0,none⟩) F.length cv F.length cap pm it.sort it.line it.a it.b it.c it.n (k:Int) it.nm).mono ?_
  rintro e w' ⟨rfl,hb⟩
  exact⟨by simp [insT,insA,na],hb⟩
 | inc_ x1 x2 =>
  have e0:it.word=⟨#[105,110,99]⟩:=ew
  rw [zsK] at ea eb ec
  have na:(it.a.toNat:Int)=it.a:=by rw [ea];exact zay _
  rw [e0,zoz]
  refine(zvq w (some ⟨bo,0,none⟩) (some ⟨bg,0,none⟩) F.length cv F.length cap pm it.sort it.line it.a it.b it.c it.n (k:Int) it.nm).mono ?_
  rintro e w' ⟨rfl,hb⟩
  exact⟨by simp [insT,insA,na],hb⟩
 | mov_ x1 x2 =>
  have e0:it.word=⟨#[109,111,118]⟩:=ew
  rw [zsL] at ea eb ec
  have na:(it.a.toNat:Int)=it.a:=by rw [ea];exact zay _
  have nb:(it.b.toNat:Int)=it.b:=by rw [eb];exact zay _
  rw [e0,zo0]
  refine(zvm w (some ⟨bo,0,none⟩) (some ⟨bg,0,none⟩) F.length cv F.length cap pm it.sort it.line it.a it.b it.c it.n (k:Int) it.nm).mono ?_
  rintro e w' ⟨rfl,hb⟩
  exact⟨by simp [insT,insA,na,nb],hb⟩
 | load_ x1 x2 =>
  have e0:it.word=⟨#[108,111,97,100]⟩:=ew
  rw [zo4] at ea eb ec
  have na:(it.a.toNat:Int)=it.a:=by rw [ea];exact zay _
  have nb:(it.b.toNat:Int)=it.b:=by rw [eb];exact zay _
  rw [e0,zl0]
  refine(zsE w (some ⟨bo,0,none⟩) (some ⟨bg,0,none⟩) F.length cv F.length cap pm it.sort it.line it.a it.b it.c it.n (k:Int) it.nm).mono ?_
  rintro e w' ⟨rfl,hb⟩
  exact⟨by simp [insT,insA,na,nb],hb⟩
 | store_ x1 x2 =>
  have e0:it.word=⟨#[115,116,111,114,101]⟩:=ew
  rw [zl7] at ea eb ec
  have na:(it.a.toNat:Int)=it.a:=by rw [ea];exact zay _
  have nb:(it.b.toNat:Int)=it.b:=by rw [eb];exact zay _
  rw [e0,zjo]
  refine(zqi w (some ⟨bo,0,none⟩) (some ⟨bg,0,none⟩) F.length cv F.length cap pm it.sort it.line it.a it.b it.c it.n (k:Int) it.nm).mono ?_
  rintro e w' ⟨rfl,hb⟩
  exact⟨by simp [insT,insA,na,nb],hb⟩
 | add_ x1 x2 x3 =>
  have e0:it.word=⟨#[97,100,100]⟩:=ew
  rw [zsM] at ea eb ec
  have na:(it.a.toNat:Int)=it.a:=by rw [ea];exact zay _
  have nb:(it.b.toNat:Int)=it.b:=by rw [eb];exact zay _
  have nc:(it.c.toNat:Int)=it.c:=by rw [ec];exact zay _
  rw [e0,zo1]
  refine(zvn w (some ⟨bo,0,none⟩) (some ⟨bg,0,none⟩) F.length cv F.length cap pm it.sort it.line it.a it.b it.c it.n (k:Int) it.nm).mono ?_
  rintro e w' ⟨rfl,hb⟩
  exact⟨by simp [insT,insA,na,nb,nc],hb⟩
 | sub_ x1 x2 x3 =>
  have e0:it.word=⟨#[115,117,98]⟩:=ew
  rw [zsN] at ea eb ec
  have na:(it.a.toNat:Int)=it.a:=by rw [ea];exact zay _
  have nb:(it.b.toNat:Int)=it.b:=by rw [eb];exact zay _
  have nc:(it.c.toNat:Int)=it.c:=by rw [ec];exact zay _
  rw [e0,zo2]
  refine(zvo w (some ⟨bo,0,none⟩) (some ⟨bg,0,none⟩) F.length cv F.length cap pm it.sort it.line it.a it.b it.c it.n (k:Int) it.nm).mono ?_
  rintro e w' ⟨rfl,hb⟩
  exact⟨by simp [insT,insA,na,nb,nc],hb⟩
 | mul_ x1 x2 x3 =>
  have e0:it.word=⟨#[109,117,108]⟩:=ew
  rw [zsO] at ea eb ec
  have na:(it.a.toNat:Int)=it.a:=by rw [ea];exact zay _
  have nb:(it.b.toNat:Int)=it.b:=by rw [eb];exact zay _
  have nc:(it.c.toNat:Int)=it.c:=by rw [ec];exact zay _
  rw [e0,zo3]
  refine(zvp w (some ⟨bo,0,none⟩) (some ⟨bg,0,none⟩) F.length cv F.length cap pm it.sort it.line it.a it.b it.c it.n (k:Int) it.nm).mono ?_
  rintro e w' ⟨rfl,hb⟩
  exact⟨by simp [insT,insA,na,nb,nc],hb⟩
 | read_ x1 =>
  have e0:it.word=⟨#[114,101,97,100]⟩:=ew
  rw [zo5] at ea eb ec
  have na:(it.a.toNat:Int)=it.a:=by rw [ea];exact zay _
  rw [e0,zl1]
  refine(zsF w (some ⟨bo,0,none⟩) (some ⟨bg,0,none⟩) F.length cv F.length cap pm it.sort it.line it.a it.b it.c it.n (k:Int) it.nm).mono ?_
  rintro e w' ⟨rfl,hb⟩
  exact⟨by simp [insT,insA,na],hb⟩
 | write_ x1 =>
  have e0:it.word=⟨#[119,114,105,116,101]⟩:=ew
  rw [zl8] at ea eb ec
  have na:(it.a.toNat:Int)=it.a:=by rw [ea];exact zay _
  rw [e0,zjp]
  refine(zqj w (some ⟨bo,0,none⟩) (some ⟨bg,0,none⟩) F.length cv F.length cap pm it.sort it.line it.a it.b it.c it.n (k:Int) it.nm).mono ?_
  rintro e w' ⟨rfl,hb⟩
  exact⟨by simp [insT,insA,na],hb⟩
 | jump_ x1 =>
  have e0:it.word=⟨#[106,117,109,112]⟩:=ew
  rw [zjq] at em
  rw [e0,zl2]
  refine(zsP w (some ⟨bo,0,none⟩) (some ⟨bg,0,none⟩) F.length cv F.length cap pm it.sort it.line it.a it.b it.c it.n (k:Int) (labM F k it.nm) it.nm (hl (by kernel_rfl) em)).mono ?_
  rintro e w' ⟨rfl,hb⟩
  exact⟨by simp [insT,insA],hb⟩
 | call_ x1 =>
  have e0:it.word=⟨#[99,97,108,108]⟩:=ew
  rw [zjr] at em
  rw [e0,zl3]
  refine(zsQ w (some ⟨bo,0,none⟩) (some ⟨bg,0,none⟩) F.length cv F.length cap pm it.sort it.line it.a it.b it.c it.n (k:Int) (fnM F it.nm) it.nm (hf (by kernel_rfl) em)).mono ?_
  rintro e w' ⟨rfl,hb⟩
  exact⟨by simp [insT,insA],hb⟩
 | less_ x1 x2 x3 =>
  have e0:it.word=⟨#[108,101,115,115]⟩:=ew
  rw [zo6] at ea eb ec
  have na:(it.a.toNat:Int)=it.a:=by rw [ea];exact zay _
  have nb:(it.b.toNat:Int)=it.b:=by rw [eb];exact zay _
  rw [zjs] at em
  rw [e0,zl4]
  refine(zsR w (some ⟨bo,0,none⟩) (some ⟨bg,0,none⟩) F.length cv F.length cap pm it.sort it.line it.a it.b it.c it.n (k:Int) (labM F k it.nm) it.nm (hl (by kernel_rfl) em)).mono ?_
  rintro e w' ⟨rfl,hb⟩
  exact⟨by simp [insT,insA,na,nb],hb⟩
 | same_ x1 x2 x3 =>
  have e0:it.word=⟨#[115,97,109,101]⟩:=ew
  rw [zo7] at ea eb ec
  have na:(it.a.toNat:Int)=it.a:=by rw [ea];exact zay _
  have nb:(it.b.toNat:Int)=it.b:=by rw [eb];exact zay _
  rw [zjt] at em
  rw [e0,zl5]
  refine(zsS w (some ⟨bo,0,none⟩) (some ⟨bg,0,none⟩) F.length cv F.length cap pm it.sort it.line it.a it.b it.c it.n (k:Int) (labM F k it.nm) it.nm (hl (by kernel_rfl) em)).mono ?_
  rintro e w' ⟨rfl,hb⟩
  exact⟨by simp [insT,insA,na,nb],hb⟩
 | back_  =>
  have e0:it.word=⟨#[98,97,99,107]⟩:=ew
  rw [e0,zhY]
  refine(zsG w (some ⟨bo,0,none⟩) (some ⟨bg,0,none⟩) F.length cv F.length cap pm it.sort it.line it.a it.b it.c it.n (k:Int) it.nm).mono ?_
  rintro e w' ⟨rfl,hb⟩
  exact⟨by simp [insT,insA],hb⟩
 | stop_  =>
  have e0:it.word=⟨#[115,116,111,112]⟩:=ew
  rw [e0,zl6]
  refine(zsH w (some ⟨bo,0,none⟩) (some ⟨bg,0,none⟩) F.length cv F.length cap pm it.sort it.line it.a it.b it.c it.n (k:Int) it.nm).mono ?_
  rintro e w' ⟨rfl,hb⟩
  exact⟨by simp [insT,insA],hb⟩
end Go.Proofs.YtfpgjkbjbbgciaaGreatDoor
