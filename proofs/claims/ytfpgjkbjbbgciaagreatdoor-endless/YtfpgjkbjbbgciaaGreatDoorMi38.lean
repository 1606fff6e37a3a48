import Derived.Test.YtfpgjkbjbbgciaaGreatDoorMi31
import Derived.Test.YtfpgjkbjbbgciaaGreatDoorMi34
set_option maxRecDepth 100000
set_option maxHeartbeats 8000000
namespace Go.Proofs.YtfpgjkbjbbgciaaGreatDoor
section
open Sp
def cnt(L:List Said):Nat→Nat
 | 0=>0
 | i+1=>cnt L i+(match L[i]? with|none=>0|some q=>if q.kind=105 then 1 else 0)
theorem zis(L:List Said)(i:Nat)(h:i<L.length)(h5:L[i].kind=105):cnt L (i+1)=cnt L i+1:=by simp [cnt,List.getElem?_eq_getElem h,h5]
theorem ze3(L:List Said)(i:Nat)(h:i<L.length)(h5:¬L[i].kind=105):cnt L (i+1)=cnt L i:=by simp [cnt,List.getElem?_eq_getElem h,h5]
theorem zvT(L:List Said)(i d:Nat):cnt L i≤cnt L (i+d):=by
 induction d with
 | zero=>exact Nat.le_refl _
 | succ d ih=>exact Nat.le_trans ih (Nat.le_add_right _ _)
theorem zoS(L:List Said){i j:Nat}(h:i≤j):cnt L i≤cnt L j:=by
 obtain⟨d,rfl⟩:=Nat.exists_eq_add_of_le h
 exact zvT L i d
theorem zyb(L:List Said)(i:Nat):cnt L i≤i:=by
 induction i with
 | zero=>exact Nat.le_refl _
 | succ i ih =>
  show cnt L i+_≤i+1
  have:(match L[i]? with|none=>0|some q=>if q.kind=105 then 1 else 0)≤1:=by
   split
   ·omega
   ·split <;> omega
  omega
def NoFn(L:List Said)(i j:Nat):Prop:=∀ m (hm:m<L.length),i≤m→m≤j→¬L[m].kind=102
theorem NoFn.one{L:List Said}{i:Nat}{hi:i<L.length}(h:¬L[i].kind=102):NoFn L i i:=fun m hm a b=>by
 have e:m=i:=by omega
 subst e;exact h
theorem NoFn.cons{L:List Said}{i j:Nat}{hi:i<L.length}(h:¬L[i].kind=102)(h2:NoFn L (i+1) j):NoFn L i j:=fun m hm a b=>by
 by_cases e:m=i
 ·subst e;exact h
 ·exact h2 m hm (by omega) b
theorem NoFn.trans{L:List Said}{i j k l:Nat}(h:NoFn L i j)(h2:NoFn L k l)(hk:k≤j+1):NoFn L i l:=fun m hm a b=>by
 by_cases e:m≤j
 ·exact h m hm a e
 ·exact h2 m hm (by omega) b
theorem zoT(L:List Said)(i j:Nat)(h:zau L i=(j:Int)):∃ hj:j<L.length,i≤j∧L[j].kind=105∧cnt L j=cnt L i∧NoFn L i j:=by
 by_cases hi:i<L.length
 ·by_cases h1:L[i].kind=102
  ·rw [zjy L i hi h1] at h;omega
  ·by_cases h5:L[i].kind=105
   ·rw [zdz L i hi h5] at h
    have e:i=j:=by omega
    subst e
    exact⟨hi,Nat.le_refl _,h5,rfl,.one (hi:=hi) h1⟩
   ·rw [zdm L i hi h1 h5] at h
    obtain⟨hj,a,b,c,d⟩:=zoT L (i+1) j h
    exact⟨hj,by omega,b,by rw [c,ze3 L i hi h5],.cons (hi:=hi) h1 d⟩
 ·rw [zha L i hi] at h;omega
termination_by L.length-i
theorem ze4{its:List It}{k:Key}{b:List Key}(h:its.map It.key=k :: b):∃ t r,its=t :: r∧t.key=k∧r.map It.key=b:=by
 cases its with
 | nil=>simp at h
 | cons t r=>simp at h;exact⟨t,r,rfl,h.1,h.2⟩
theorem zn2{t:It}(r:List It)(h:t.sort=1):zal (t :: r)=zal r:=by simp [zal,h]
theorem zku{t:It}(r:List It)(h:t.sort=2):zal (t :: r)=t :: zal r:=by simp [zal,h]
theorem zoU{L:List Said}(hw:WfAll L){i:Nat}(hi:i<L.length)(h0:¬L[i].kind=0)(h1:¬L[i].kind=102)(h2:¬L[i].kind=108):L[i].kind=105:=by
 have:=hw.at i hi
 unfold Wf at this;omega
theorem zhz(L:List Said)(hw:WfAll L)(i:Nat)(its:List It)(h:its.map It.key=zan L i)(m:Nat)(it:It)(hm:(zal its)[m]?=some it):
  ∃ j,∃ hj:j<L.length,i≤j∧L[j].kind=105∧it.key=keyQ L[j] ((j:Int)+1)∧cnt L j=cnt L i+m∧NoFn L i j:=by
 by_cases hi:i<L.length
 ·by_cases h1:L[i].kind=102
  ·rw [zcI L i hi h1] at h
   have e:its=[]:=by simpa using h
   subst e;simp [zal] at hm
  ·by_cases h0:L[i].kind=0
   ·rw [zbY L i hi h0] at h
    obtain⟨j,hj,a,b,c,d,e⟩:=zhz L hw (i+1) its h m it hm
    exact⟨j,hj,by omega,b,c,by rw [d,ze3 L i hi (by omega)],.cons (hi:=hi) h1 e⟩
   ·rw [zb7 L i hi h0 h1] at h
    obtain⟨t,r,rfl,ht,hr⟩:=ze4 h
    by_cases h2:L[i].kind=108
    ·have hs:t.sort=1:=(congrArg Key.sort ht).trans (zf0 _ h2)
     rw [zn2 r hs] at hm
     obtain⟨j,hj,a,b,c,d,e⟩:=zhz L hw (i+1) r hr m it hm
     exact⟨j,hj,by omega,b,c,by rw [d,ze3 L i hi (by omega)],.cons (hi:=hi) h1 e⟩
    ·have h5:=zoU hw hi h0 h1 h2
     have hs:t.sort=2:=(congrArg Key.sort ht).trans (zey _ h1 h2)
     rw [zku r hs] at hm
     cases m with
     | zero =>
      have e:t=it:=by simpa using hm
      subst e
      exact⟨i,hi,Nat.le_refl _,h5,ht,rfl,.one (hi:=hi) h1⟩
     | succ m =>
      rw [List.getElem?_cons_succ] at hm
      obtain⟨j,hj,a,b,c,d,e⟩:=zhz L hw (i+1) r hr m it hm
      exact⟨j,hj,by omega,b,c,by rw [d,zis L i hi h5];omega,.cons (hi:=hi) h1 e⟩
 ·rw [zcx L i hi] at h
  have e:its=[]:=by simpa using h
  subst e;simp [zal] at hm
termination_by L.length-i
theorem zit(L:List Said)(hw:WfAll L)(i:Nat)(its:List It)(h:its.map It.key=zan L i)(j:Nat)(hj:j<L.length)(hij:i≤j)(h5:L[j].kind=105)(hno:NoFn L i j):
  ∃ it,(zal its)[cnt L j-cnt L i]?=some it∧it.key=keyQ L[j] ((j:Int)+1):=by
 have hi:i<L.length:=by omega
 have h1:=hno i hi (Nat.le_refl _) hij
 have hno':NoFn L (i+1) j:=fun m hm a b=>hno m hm (by omega) b
 by_cases e0:i=j
 ·subst e0
  rw [zb7 L i hi (by omega) h1] at h
  obtain⟨t,r,rfl,ht,hr⟩:=ze4 h
  have hs:t.sort=2:=(congrArg Key.sort ht).trans (zey _ h1 (by omega))
  exact⟨t,by rw [zku r hs,Nat.sub_self];rfl,ht⟩
 ·by_cases h0:L[i].kind=0
  ·rw [zbY L i hi h0] at h
   rw [←ze3 L i hi (by omega)]
   exact zit L hw (i+1) its h j hj (by omega) h5 hno'
  ·rw [zb7 L i hi h0 h1] at h
   obtain⟨t,r,rfl,ht,hr⟩:=ze4 h
   obtain⟨it,hit,hk⟩:=zit L hw (i+1) r hr j hj (by omega) h5 hno'
   by_cases h2:L[i].kind=108
   ·have hs:t.sort=1:=(congrArg Key.sort ht).trans (zf0 _ h2)
    rw [zn2 r hs,←ze3 L i hi (by omega)]
    exact⟨it,hit,hk⟩
   ·have h5':=zoU hw hi h0 h1 h2
    have hs:t.sort=2:=(congrArg Key.sort ht).trans (zey _ h1 h2)
    have hle:=zoS L (show i+1≤j by omega)
    have hc:=zis L i hi h5'
    rw [zku r hs,show cnt L j-cnt L i=(cnt L j-cnt L (i+1))+1 by omega]
    exact⟨it,by rw [List.getElem?_cons_succ];exact hit,hk⟩
termination_by L.length-i
theorem zh0(L:List Said)(hw:WfAll L)(x:ByteArray)(i:Nat)(its:List It)(h:its.map It.key=zan L i)(n j:Nat)(hl:zaY L x i=(j:Int)):
  zbB (zbi n its) x=some (n+(cnt L j-cnt L i))∧∃ hj:j<L.length,i≤j∧L[j].kind=108∧NoFn L i j:=by
 by_cases hi:i<L.length
 ·by_cases h1:L[i].kind=102
  ·rw [zfK L x i hi h1] at hl;omega
  ·by_cases h0:L[i].kind=0
   ·rw [zbY L i hi h0] at h
    rw [zbF L x i hi h1 (by simp [zcF,h0])] at hl
    obtain⟨a,hj,b,c,d⟩:=zh0 L hw x (i+1) its h n j hl
    exact⟨by rw [a,ze3 L i hi (by omega)],hj,by omega,c,.cons (hi:=hi) h1 d⟩
   ·rw [zb7 L i hi h0 h1] at h
    obtain⟨t,r,rfl,ht,hr⟩:=ze4 h
    rw [zbZ]
    by_cases h2:L[i].kind=108
    ·have hs:t.sort=1:=(congrArg Key.sort ht).trans (zf0 _ h2)
     have hnm:t.nm=L[i].word 0:=(congrArg Key.nm ht).trans (zko _ h2)
     rw [if_pos hs]
     by_cases h3:eqW (L[i].word 0) x=true
     ·rw [zcs L x i hi h1 (by simp [zcF,h2,h3])] at hl
      have e:i=j:=by omega
      subst e
      refine⟨?_,hi,Nat.le_refl _,h2,.one (hi:=hi) h1⟩
      unfold zbB
      rw [if_pos (by rw [hnm];exact h3)]
      simp
     ·rw [zbF L x i hi h1 (by simp [zcF,h3])] at hl
      obtain⟨a,hj,b,c,d⟩:=zh0 L hw x (i+1) r hr n j hl
      refine⟨?_,hj,by omega,c,.cons (hi:=hi) h1 d⟩
      unfold zbB
      rw [if_neg (by rw [hnm];exact h3),a,ze3 L i hi (by omega)]
    ·have h5:=zoU hw hi h0 h1 h2
     have hs:t.sort=2:=(congrArg Key.sort ht).trans (zey _ h1 h2)
     rw [if_neg (by omega)]
     rw [zbF L x i hi h1 (by simp [zcF,h2])] at hl
     obtain⟨a,hj,b,c,d⟩:=zh0 L hw x (i+1) r hr (n+1) j hl
     have hle:=zoS L b
     have hc:=zis L i hi h5
     refine⟨?_,hj,by omega,c,.cons (hi:=hi) h1 d⟩
     rw [a]
     congr 1
     omega
 ·rw [zdT L x i hi] at hl;omega
termination_by L.length-i
theorem zl6{F:List FnM}{f:Fn}{b:List Fn}(h:F.map FnM.fn=f :: b):∃ t r,F=t :: r∧t.fn=f∧r.map FnM.fn=b:=by
 cases F with
 | nil=>simp at h
 | cons t r=>simp at h;exact⟨t,r,rfl,h.1,h.2⟩
theorem ze5(f:FnM)(F:List FnM):lenF (f :: F)=(zal f.its).length+lenF F:=by simp [lenF]
theorem zoV(L:List Said)(hw:WfAll L)(i:Nat)(its:List It)(h:its.map It.key=zan L i)(F:List FnM)(hF:F.map FnM.fn=zaP L i)(k:Nat)(f:FnM)(hk:F[k]?=some f):
  ∃ o,∃ ho:o<L.length,i≤o∧L[o].kind=102∧f.line=(o:Int)+1∧f.its.map It.key=zan L (o+1)∧cnt L o=cnt L i+(zal its).length+lenF (F.take k):=by
 by_cases hi:i<L.length
 ·by_cases h1:L[i].kind=102
  ·rw [zcI L i hi h1] at h
   have e:its=[]:=by simpa using h
   subst e
   rw [zbR L i hi h1] at hF
   obtain⟨t,r,rfl,ht,hr⟩:=zl6 hF
   have hb:t.its.map It.key=zan L (i+1):=congrArg Fn.body ht
   have hl:t.line=(i:Int)+1:=congrArg Fn.line ht
   cases k with
   | zero =>
    have e:t=f:=by simpa using hk
    subst e
    exact⟨i,hi,Nat.le_refl _,h1,hl,hb,by simp [zal,lenF]⟩
   | succ k =>
    rw [List.getElem?_cons_succ] at hk
    obtain⟨o,ho,a,b,c,d,e⟩:=zoV L hw (i+1) t.its hb r hr k f hk
    exact⟨o,ho,by omega,b,c,d,by rw [e,ze3 L i hi (by omega),List.take_succ_cons,ze5];simp [zal];omega⟩
  ·rw [zbH L i hi h1] at hF
   by_cases h0:L[i].kind=0
   ·rw [zbY L i hi h0] at h
    obtain⟨o,ho,a,b,c,d,e⟩:=zoV L hw (i+1) its h F hF k f hk
    exact⟨o,ho,by omega,b,c,d,by rw [e,ze3 L i hi (by omega)]⟩
   ·rw [zb7 L i hi h0 h1] at h
    obtain⟨t,r,rfl,ht,hr⟩:=ze4 h
    obtain⟨o,ho,a,b,c,d,e⟩:=zoV L hw (i+1) r hr F hF k f hk
    by_cases h2:L[i].kind=108
    ·have hs:t.sort=1:=(congrArg Key.sort ht).trans (zf0 _ h2)
     exact⟨o,ho,by omega,b,c,d,by rw [e,ze3 L i hi (by omega),zn2 r hs]⟩
    ·have h5:=zoU hw hi h0 h1 h2
     have hs:t.sort=2:=(congrArg Key.sort ht).trans (zey _ h1 h2)
     exact⟨o,ho,by omega,b,c,d,by rw [e,zis L i hi h5,zku r hs,List.length_cons];omega⟩
 ·rw [zcJ L i hi] at hF
  have e:F=[]:=by simpa using hF
  subst e;simp at hk
termination_by L.length-i
theorem zkv(L:List Said)(x:ByteArray)(i:Nat)(F:List FnM)(hF:F.map FnM.fn=zaP L i)(n o:Nat)(hl:zb3 L x i=(o:Int)):
  ∃ k f,F[k]?=some f∧zbB (zaM n F) x=some (n+k)∧f.line=(o:Int)+1:=by
 by_cases hi:i<L.length
 ·by_cases h1:L[i].kind=102
  ·rw [zbR L i hi h1] at hF
   obtain⟨t,r,rfl,ht,hr⟩:=zl6 hF
   have hnm:t.name=L[i].word 1:=congrArg Fn.name ht
   have hln:t.line=(i:Int)+1:=congrArg Fn.line ht
   rw [zdo]
   by_cases h3:eqW (L[i].word 1) x=true
   ·rw [zdg L x i hi (by simp [isFn,h1,h3])] at hl
    refine⟨0,t,rfl,?_,by omega⟩
    unfold zbB
    rw [if_pos (by rw [hnm];exact h3)]
    simp
   ·rw [zdl L x i hi (by simp [isFn,h3])] at hl
    obtain⟨k,f,a,b,c⟩:=zkv L x (i+1) r hr (n+1) o hl
    refine⟨k+1,f,by rw [List.getElem?_cons_succ];exact a,?_,c⟩
    unfold zbB
    rw [if_neg (by rw [hnm];exact h3),b]
    congr 1;omega
  ·rw [zbH L i hi h1] at hF
   rw [zdl L x i hi (by simp [isFn,h1])] at hl
   exact zkv L x (i+1) F hF n o hl
 ·rw [zgu L x i hi] at hl;omega
termination_by L.length-i
theorem ziu(L:List Said)(i:Nat)(k:Key)(r:List Key)(h:zbd L i=k :: r)(hs:k.sort=0):zan L i=[]:=by
 by_cases hi:i<L.length
 ·by_cases h0:L[i].kind=0
  ·rw [zdh L i hi h0] at h
   rw [zbY L i hi h0]
   exact ziu L (i+1) k r h hs
  ·rw [zbq L i hi h0] at h
   have hk:keyQ L[i] ((i:Int)+1)=k:=by injection h
   by_cases h1:L[i].kind=102
   ·exact zcI L i hi h1
   ·exact absurd ((congrArg Key.sort hk).trans hs) (zf1 _ h1)
 ·exact zcx L i hi
termination_by L.length-i
theorem zn3(L:List Said)(i:Nat)(k:Key)(r:List Key)(h:zbd L i=k :: r)(hs:k.sort=0):(k :: r).foldl addK []=zaP L i:=by
 by_cases hi:i<L.length
 ·by_cases h0:L[i].kind=0
  ·rw [zdh L i hi h0] at h
   rw [zbH L i hi (by omega)]
   exact zn3 L (i+1) k r h hs
  ·rw [zbq L i hi h0] at h
   have hk:keyQ L[i] ((i:Int)+1)=k:=by injection h
   by_cases h1:L[i].kind=102
   ·rw [←h,List.foldl_cons,zcw _ _ (zex _ h1),zfU,zbR L i hi h1]
    simp [keyQ,zg0 _ h1]
   ·exact absurd ((congrArg Key.sort hk).trans hs) (zf1 _ h1)
 ·rw [zcV L i hi] at h;cases h
termination_by L.length-i
end
section
open Go.RowKit Sp
attribute [local go_sem ↓] Go.wp_at_zero Go.wp_at_succ
theorem zrA(A:List Ln)(G:List (List Ln)):zfg (A :: G)=zcB ((zdv G.length :: (A++[zcO])).map Ln.bytes)++zfg G:=by
 unfold zfg
 show zcB (((zdv G.length :: (A++[zcO]))++lnsT G).map Ln.bytes)=_
 rw [List.map_append,ziX]
theorem zrB(ls:List (List UInt8))(l:List UInt8):zcB (ls++[l])=zcB ls++l++[10]:=by
 rw [ziX];simp [zcB]
theorem zrC(ls:List (List UInt8))(h:∀ l∈ls,l.length≤200):(zcB ls).length≤ls.length*201:=by
 induction ls with
 | nil=>exact Nat.le_refl _
 | cons l t ih =>
  have h1:=ih (fun x hx=>h x (List.mem_cons_of_mem _ hx))
  have h2:=h l List.mem_cons_self
  rw [zgI,List.length_append,List.length_cons,List.length_cons,Nat.add_mul]
  omega
theorem zrD(k:Nat)(h:k≤1000000):(zdv k).bytes.length≤200:=by
 have:=zeZ 6 k (by omega)
 simp [Ln.bytes,Ln.blank,zdv,zcj,fnW]
 omega
theorem zuE{k:Nat}{D:ByteArray}(h:Hid (D=ba (digL (k:Int)))):(⟨#[102,117,110,99,32,102]⟩:ByteArray)++D++(⟨#[10]⟩:ByteArray)=ba (zcB ((zdv k :: ([]:List Ln)).map Ln.bytes)):=by
 rw [show D=_ from h,show digL (k:Int)=decL k by unfold digL;rw [if_neg (by omega)];rfl]
 have e:(⟨#[102,117,110,99,32,102]⟩:ByteArray)=ba [102,117,110,99,32,102]:=rfl
 have e2:(⟨#[10]⟩:ByteArray)=ba [10]:=rfl
 rw [e,e2]
 simp only [zc8]
 refine congrArg ba ?_
 simp [Ln.bytes,Ln.blank,zcj,zdv,fnW,zcB]
theorem zuF{k i:Nat}{L:List Ln}(hi:i<L.length):ba (zcB ((zdv k :: L.take i).map Ln.bytes))++ba (L[i]).bytes++(⟨#[10]⟩:ByteArray)=ba (zcB ((zdv k :: L.take (i+1)).map Ln.bytes)):=by
 have e2:(⟨#[10]⟩:ByteArray)=ba [10]:=rfl
 rw [e2]
 simp only [zc8]
 refine congrArg ba ?_
 rw [List.take_succ_eq_append_getElem hi,←List.cons_append,List.map_append,List.map_singleton,zrB]
theorem zmA{k i:Nat}{L:List Ln}(hk:k≤1000000)(hL:∀ l∈L,l.bytes.length≤200)(hl:L.length≤1300):(ba (zcB ((zdv k :: L.take i).map Ln.bytes))).size≤300000:=by
 have h:=zrC ((zdv k :: L.take i).map Ln.bytes) (fun l hl=>by
  obtain⟨x,hx,rfl⟩:=List.mem_map.1 hl
  rcases List.mem_cons.1 hx with e|e
  ·rw [e];exact zrD k hk
  ·exact hL x (List.mem_of_mem_take e))
 have h2:((zdv k :: L.take i).map Ln.bytes).length≤1301:=by simp;omega
 have h3:=Nat.mul_le_mul_right 201 h2
 show(zcB _).length≤_
 omega
def accS(k:Nat)(L:List Ln)(i:Nat):ByteArray:=ba (zcB ((zdv k :: L.take i).map Ln.bytes))
def lnS(L:List Ln)(i:Nat):ByteArray:=if h:i<L.length then ba (L[i]).bytes else ByteArray.empty
theorem zuG{k i:Nat}{L:List Ln}(hi:i<L.length):accS k L i++lnS L i++(⟨#[10]⟩:ByteArray)=accS k L (i+1):=by
 unfold accS lnS
 rw [dif_pos hi]
 exact zuF hi
theorem zxa{L:List Ln}{i:Nat}(hL:∀ l∈L,l.bytes.length≤200):(lnS L i).size≤200:=by
 unfold lnS
 split
 ·rename_i h
  exact hL _ (List.getElem_mem h)
 ·exact Nat.zero_le _
theorem zp9(A:List Ln)(G:List (List Ln)):accS G.length (A++[zcO]) (A++[zcO]).length++ba (zfg G)=ba (zfg (A :: G)):=by
 unfold accS
 rw [List.take_length,zrA,zc8]
theorem KnRow.fr{B:Nat}{w w':World}{b px:Nat}{cv:Value}{code:List Int}{S:Wst}{k:Nat}{V V':Nat→Value}{v:Value}{nk:Nat}(h:KnRow B w v nk)(M:WrM B w b px cv code S k V)(f:Fr b px w V w' V'):KnRow B w' v nk:=by
 obtain⟨xs,h1,h2⟩:=h
 refine⟨xs,zaj h1 (fun g hg=>f.keep g (h1.lt g hg).2 (fun hm=>?_)),h2⟩
 rcases hm with e|e|e|e
 ·exact zcu h1 M.blk.kb (by decide) g hg e
 ·exact zcu h1 M.blk.di.kx (by decide) g hg e
 ·rcases zcU h1 M.lines (by decide) with q|q
  ·rw [q] at hg;cases hg
  ·exact q (hg.trans e.symm)
 ·rcases zcU h1 M.counts (by decide) with q|q
  ·rw [q] at hg;cases hg
  ·exact q (hg.trans e.symm)
theorem KnRow.below{B:Nat}{w w':World}{v:Value}{nk:Nat}(h:KnRow B w v nk)(hb:Below w.heap.size w w'):KnRow B w' v nk:=by
 obtain⟨xs,h1,h2⟩:=h
 exact⟨xs,zaj h1 (fun g hg=>hb.block g (h1.lt g hg).2),h2⟩
theorem DiM.grew{B:Nat}{w w6:World}{px:Nat}{cv:Value}{code:List Int}{k:Nat}{v:Value}{nk:Nat}{xs:List Value}{o:Obj}(D:DiM B w px cv code k)(h1:w.ownsRow B 113 10 v nk xs)(hg:(w.alloc o).drew.grownBy w6 v.ownBlock)(hB:B≤w.heap.size):DiM B w6 px cv code k∧Below B w w6:=by
 have hg2:w.grownBy w6 v.ownBlock:=(World.grownBy_alloc w o v.ownBlock).trans ⟨hg.os,hg.tape,hg.output,hg.size,hg.block⟩
 have hb:Below B w w6:=zfb hg2 (fun g e=>(h1.lt g e).1) hB
 exact⟨D.block hb (hg2.block px D.lt (fun e=>zcu h1 D.kx (by decide) px e.symm rfl)),hb⟩
theorem KnRow.more{B:Nat}{w4:World}{v4:Value}{nk:Nat}{z f:Nat}{g:Nat→Bool}(hz:z≤(nk+1)*2147483648)(hf:f≤nk+1){xs:List Value}(h1:∀ j,j<nk→(∃ z:Nat,xs[j*10]?=some (.int .i64 (z:Int))∧z≤(j+1)*2147483648)∧(∀ i,i<8→∃ g,xs[j*10+(1+i)]?=some (.bool g))∧∃ f:Nat,xs[j*10+9]?=some (.int .i64 (f:Int))∧f≤j+1)(hx:xs.length=nk*10)
  (h4:w4.ownsRow B 113 10 v4 (nk+1) (xs++[.int .i64 (z:Int),.bool (g 0),.bool (g 1),.bool (g 2),.bool (g 3),.bool (g 4),.bool (g 5),.bool (g 6),.bool (g 7),.int .i64 (f:Int)])):KnRow B w4 v4 (nk+1):=by
 refine⟨_,h4,fun j hj=>?_⟩
 by_cases hjn:j<nk
 ·obtain⟨⟨z1,a1,a2⟩,a3,f1,a4,a5⟩:=h1 j hjn
  refine⟨⟨z1,by rw [List.getElem?_append_left (by omega)];exact a1,a2⟩,fun i hi=>?_,f1,by rw [List.getElem?_append_left (by omega)];exact a4,a5⟩
  obtain⟨gg,hg⟩:=a3 i hi
  exact⟨gg,by rw [List.getElem?_append_left (by omega)];exact hg⟩
 ·have hj2:j=nk:=by omega
  subst hj2
  refine⟨⟨z,by rw [List.getElem?_append_right (by omega),show j*10-xs.length=0 by omega];rfl,hz⟩,fun i hi=>⟨g i,?_⟩,f,by rw [List.getElem?_append_right (by omega),show j*10+9-xs.length=9 by omega];rfl,hf⟩
  rw [List.getElem?_append_right (by omega),show j*10+(1+i)-xs.length=1+i by omega]
  have hi2:i=0∨i=1∨i=2∨i=3∨i=4∨i=5∨i=6∨i=7:=by omega
  rcases hi2 with rfl|rfl|rfl|rfl|rfl|rfl|rfl|rfl <;> rfl
theorem zkI{B:Nat}{w:World}{px:Nat}{cv:Value}{code:List Int}{k:Nat}(h:DiM B w px cv code k)(hB:B≤w.heap.size)(n:Int)(hn:0<n):
  Calls Tryz.prog 41 #[.pointer (some ⟨px,0,none⟩),.int .i64 n] w fun e w'=>∃ c:Nat,e=.returned (.int .i64 (c:Int))∧(c:Int)<n∧(∃ k2,DiM B w' px cv code k2)∧Below B w w'∧w.grownBy w' (some px):=by
 refine(zeF h n hn).mono ?_
 rintro e w' ⟨c,he,hc,k2,hd,hg⟩
 exact⟨c,he,hc,⟨k2,hd⟩,zfb hg (fun g e=>by cases e;exact h.hB) hB,hg⟩
def zzG:Prop:=∀(B:Nat) (w:World) (b px:Nat) (cv:Value) (code:List Int) (S:Wst) (k:Nat) (V:Nat→Value),WrM B w b px cv code S k V→S.deep=0→(∀ i,S.held i=false)→S.lines=[]→S.labels=0→S.nk≤100→S.counts=[] →
 Calls Tryz.prog 60 #[.pointer (some ⟨b,0,none⟩)] w fun e w'=>(∃ n:Nat,e=.returned (.int .i64 (n:Int))∧n≤1073741824)∧PcPost B w b px cv code V S 1268 252 w'
def zuH:Prop:=∀(B:Nat) (w:World) (b px:Nat) (cv:Value) (code:List Int) (S:Wst) (k:Nat) (V:Nat→Value),WrM B w b px cv code S k V→(∀ i,S.held i=false)→S.lines.length≤10000→S.nk≤100 →
 Calls Tryz.prog 61 #[.pointer (some ⟨b,0,none⟩)] w fun e w'=>(∃ n:Nat,e=.returned (.int .i64 (n:Int))∧n≤S.nk*2147483648+2)∧PcPost B w b px cv code V S 2 0 w'
end
section
open Go.RowKit Sp
theorem ztP{w:World}{p:Value}(r:Rg)(hr:r.Ok)(h:¬(0≤r.lo∧r.hi≤15)):Calls Tryz.prog 254 #[p,rv r] w fun e w'=>e=zak 8 0∧Below w.heap.size w w':=by
 go_enter Tryz.func254,Tryz.ntmps254
 go_wp2_with(go_at_call 255;(with_reducible refine(zhj r hr h).mono ?_);rintro e wx ⟨rfl,hbx⟩)
 exact⟨rfl,rfl,box2.trans (hbx.mono (by simp;omega))⟩
theorem zrc{w:World}{p:Value}(r v:Rg)(hr:r.Ok)(h:¬(0≤r.lo∧r.hi≤15)):Calls Tryz.prog 258 #[p,rv r,rv v] w fun e w'=>e=zak 8 0∧Below w.heap.size w w':=by
 go_enter Tryz.func258,Tryz.ntmps258
 go_wp2_with(go_at_call 255;(with_reducible refine(zhj r hr h).mono ?_);rintro e wx ⟨rfl,hbx⟩)
 exact⟨rfl,rfl,box2.trans (hbx.mono (by simp;omega))⟩
theorem zjp{w:World}{b:Nat}{bv:Value}{k:Kn}(h:KnM w b bv k)(r:Nat)(s:Nat)(hs:s<8)(K:(k.regs s).Ok)(hout:¬(0≤(k.regs s).lo∧(k.regs s).hi≤15)):
  Calls Tryz.prog 252 #[.agg #[.int .i64 (r:Int),.int .i64 (s:Int)],.pointer (some ⟨b,0,none⟩)] w fun e w'=>e=zak 8 0∧Below w.heap.size w w':=by
 have hlt:=h.lt
 have s0:(0:Int)≤(s:Int):=by omega
 have s1:(s:Int)<8:=by omega
 have a0:=((h.alloc (.cells #[.int .i64 (r:Int),.int .i64 (s:Int)] 176)).cR s hs).1
 have a1:=((h.alloc (.cells #[.int .i64 (r:Int),.int .i64 (s:Int)] 176)).cR s hs).2
 go_enter Tryz.func252,Tryz.ntmps252
 go_wp2
 go_region_dies
 all_goals(go_at_call 254;(with_reducible refine(ztP (k.regs s) K hout).mono ?_);rintro e wx ⟨rfl,hbx⟩)
 all_goals exact⟨rfl,rfl,(box1.drew).trans (hbx.mono (by simp))⟩
theorem ziH{w:World}{b:Nat}{bv:Value}{k:Kn}(h:KnM w b bv k)(r:Nat)(hr:r<8)(s:Nat)(hs:s<8)(K:(k.regs r).Ok)(hout:¬(0≤(k.regs r).lo∧(k.regs r).hi≤15)):
  Calls Tryz.prog 257 #[.agg #[.int .i64 (r:Int),.int .i64 (s:Int)],.pointer (some ⟨b,0,none⟩)] w fun e w'=>e=zak 8 0∧Below w.heap.size w w':=by
 have hlt:=h.lt
 have r0:(0:Int)≤(r:Int):=by omega
 have r1:(r:Int)<8:=by omega
 have s0:(0:Int)≤(s:Int):=by omega
 have s1:(s:Int)<8:=by omega
 obtain⟨A,hA⟩:∃ A,w.alloc (.cells #[.int .i64 (r:Int),.int .i64 (s:Int)] 178)=A:=⟨_,rfl⟩
 have HB:∀ W,Below A.heap.size A W→KnM W b bv k:=fun W hW=>by subst hA;exact(h.alloc _).below hW (by simp;omega)
 have hL:∀ W,Below A.heap.size A W→Below w.heap.size w W:=fun W hW=>by subst hA;exact box1.trans (hW.mono (by simp))
 have HF:∀ W,Below A.heap.size A W→(W.cell? ⟨w.heap.size,0,none⟩=some (.int .i64 (r:Int))∧W.cell? ⟨w.heap.size,1,none⟩=some (.int .i64 (s:Int)))∧(W.cell? ⟨b,r*2,none⟩=some (.int .i64 (k.regs r).lo)∧W.cell? ⟨b,r*2+1,none⟩=some (.int .i64 (k.regs r).hi))∧(W.cell? ⟨b,s*2,none⟩=some (.int .i64 (k.regs s).lo)∧W.cell? ⟨b,s*2+1,none⟩=some (.int .i64 (k.regs s).hi)):=fun W hW =>
  ⟨by subst hA;exact⟨za1 hW 0,za1 hW 1⟩,(HB W hW).cR r hr,(HB W hW).cR s hs⟩
 go_enter Tryz.func257,Tryz.ntmps257
 go_wp2
 refine zad 15 (fun W=>Below A.heap.size A W) (Below.refl _ _).drew (by kernel_rfl) (by kernel_rfl) ?_
 simp only [List.take_succ_cons,List.take_zero,List.drop_succ_cons,List.drop_zero]
 repeat(refine zab rfl ?_ (fun W hW=>?_) ?_;rotate_left 1;· (obtain⟨⟨f0,f1⟩,⟨f2,f3⟩,f4,f5⟩:=HF W hW;go_simp;with_reducible rfl))
 refine wpQuiet_nil ?_
 intro W hW
 have hW2:=hL W hW
 go_wp2_with(first|(go_at_call 258;(with_reducible refine(zrc (k.regs r) (k.regs s) K hout).mono ?_);rintro e w5 ⟨rfl,hb5⟩))
 exact⟨rfl,rfl,hW2.trans (hb5.mono hW2.size)⟩
theorem znI{w:World}{ao:Option Addr}{cap:Nat}:Calls Tryz.prog 169 #[.slice ao 0 cap,.int .i64 0] w fun e w'=>e=.returned (.int .i64 0)∧Below w.heap.size w w':=by
 go_enter Tryz.func169,Tryz.ntmps169
 go_wp2
 go_loopw [5,6] (fun tl tb wr=>tl=.int .i64 0∧tb=.int .i64 1∧Below w.heap.size w wr) (fun _ _ _=>0)
 case atStart=>exact⟨rfl,rfl,Below.refl _ _⟩
 case round =>
  obtain⟨rfl,rfl,hb⟩:=hrel
  go_wp2
  go_ret
  exact⟨rfl,hb⟩
theorem zqL{w:World}{ao:Option Addr}{cap:Nat}:Calls Tryz.prog 154 #[.slice ao 0 cap,.int .i64 0] w fun e w'=>e=.returned (.tuple #[])∧Below w.heap.size w w':=by
 go_enter Tryz.func154,Tryz.ntmps154
 go_wp2
 go_loopw [1] (fun ti wr=>ti=.int .i64 0∧Below w.heap.size w wr) (fun _ _=>0)
 case atStart=>exact⟨rfl,Below.refl _ _⟩
 case round =>
  obtain⟨rfl,hb⟩:=hrel
  go_wp2_with(go_at_call 169;(with_reducible refine znI.mono ?_);rintro e wx ⟨rfl,hbx⟩)
  refine bodyPost_ret (results_none rfl _ _ _) rfl ⟨rfl,hb.trans (hbx.mono hb.size)⟩
theorem zwn{w:World}{H C cap n:Nat}{xs:List Wy}(h:HpM w H C xs)(hl:xs.length=n)(a:Nat)(ha:a<n)(hn:n≤100000)(hR:SinkI (stp xs) n a):Calls Tryz.prog 154 #[.slice (some ⟨H,0,none⟩) n cap,.int .i64 (a:Int)] w (zk4 w H C xs):=by
 have L0:∃ ys:List Wy,ys.Perm xs∧HpM w H C ys∧SinkI (stp ys) n a∧w.grownBy w (some H):=⟨xs,List.Perm.refl _,h,hR,⟨rfl,rfl,rfl,Nat.le_refl _,fun _ _ _=>rfl⟩⟩
 have HN:Hid (xs.length=n):=hl
 clear hl h hR
 go_enter Tryz.func154,Tryz.ntmps154
 go_wp2
 go_loopw [1] (fun ti wr=>∃ a:Nat,ti=.int .i64 (a:Int)∧a<n∧∃ ys:List Wy,ys.Perm xs∧HpM wr H C ys∧SinkI (stp ys) n a∧w.grownBy wr (some H)) (fun ti _=>n-(intOf ti).toNat)
 case atStart=>exact⟨a,rfl,ha,L0⟩
 case round =>
  obtain⟨a,rfl,ha,ys,hp,hM,hR,hg⟩:=hrel
  clear L0
  have hl:ys.length=n:=hp.length_eq.trans HN.out
  have hls:=zt4 (cap:=cap) hM a (by omega) (by omega)
  rw [hl] at hls
  go_wp2_with(go_at_call 169;(with_reducible refine hls.mono ?_);rintro e wx ⟨m,rfl,hX,m1,m2,m3,m4,m5⟩)
  ·have hx0:((m:Int) == (a:Int))=true:=by assumption
   have hx:(m:Int)=(a:Int):=by simpa using hx0
   obtain rfl:m=a:=by omega
   rw [hl] at m4 m5
   exact bodyPost_ret (results_none rfl _ _ _) rfl ⟨rfl,ys,hp,hM.below hX,by rw [hl];exact hR.done m4 m5,zae hg (zaJ hX)⟩
  ·have hx0:((m:Int) == (a:Int))=false:=by assumption
   have hx:¬(m:Int)=(a:Int):=by simpa using hx0
   have hma:¬a=m:=by omega
   have hay:a<ys.length:=by omega
   have hmy:m<ys.length:=m1
   have c1:=((hM.below hX).at' hay).1
   have c2:=((hM.below hX).at' hmy).1
   have z1:=(hM.below hX).fz a
   have z2:=(hM.below hX).fz m
   have HS2:=(hM.below hX).swap hay hmy hma
   rw [hl] at m4 m5
   have hR3:SinkI (stp (zef wy0 ys a m)) n m:=by
    have e:stp (zef wy0 ys a m)=znE (stp ys) a m:=ztz hay hmy hma (fun x=>keyK x.k)
    rw [e]
    exact hR.step (by omega) (by omega) m3 m4 m5
   have a0:(0:Int)≤(a:Int):=by omega
   have a1:(a:Int)<(n:Int):=by omega
   have q0:(0:Int)≤(m:Int):=by omega
   have q1:(m:Int)<(n:Int):=by omega
   have hmm:a<m:=by omega
   have hmn:m<n:=by omega
   generalize ys.getD a wy0=xa at c1 HS2
   generalize ys.getD m wy0=xm at c2 HS2
   clear m1 m2 m3 m4 m5 hls
   go_region
   all_goals go_wp2
   all_goals exact⟨⟨m,rfl,hmn,zef wy0 ys a m,(zg9 hay hmy).trans hp,HS2.drew,hR3,zdG (zae hg (zae (zah hX) (zah (Below.refl _ _))))⟩,by simp [intOf];omega⟩
end
end Go.Proofs.YtfpgjkbjbbgciaaGreatDoor
