import Derived.Test.YtfpgjkbjbbgciaaGreatDoorMj17
set_option maxRecDepth 100000
set_option maxHeartbeats 8000000
namespace Go.Proofs.YtfpgjkbjbbgciaaGreatDoor
open Sp
theorem zio(L:List Said)(x:ByteArray)(k:Nat)(hk:k<L.length)(hx:isFn L[k] x=true)(i:Nat)(hi:i≤k):decide (zaN L x i<k)=true↔∃ j,∃ h:j<L.length,i≤j∧j<k∧isFn L[j] x=true:=by
 by_cases f:i=k
 ·subst f;rw [zd4 L x i hk hx];simp;intro j a c b;omega
 ·have h:i<L.length:=by omega
  by_cases d:isFn L[i] x=true
  ·rw [zd4 L x i h d];constructor
   ·intro _;exact⟨i,h,Nat.le_refl _,by omega,d⟩
   ·intro _;simp;omega
  ·rw [zdr L x i h (by simpa using d),zio L x k hk hx (i+1) (by omega)];constructor
   ·rintro⟨j,e,a,c,b⟩;exact⟨j,e,by omega,c,b⟩
   ·rintro⟨j,e,a,c,b⟩;refine⟨j,e,?_,c,b⟩;rcases Nat.lt_or_eq_of_le a with a|a
    ·omega
    ·subst a;exact absurd b d
termination_by k-i
theorem zj7(L:List Said)(x:ByteArray)(k:Nat)(hk:k<L.length)(hx:zdc L[k] x=true)(hk1:¬L[k].kind=102)(i:Nat)(hi:i≤k)(hno:∀ j,∀ h:j<L.length,i≤j→j<k→¬L[j].kind=102):decide (zaY L x i<k)=true↔∃ j,∃ h:j<L.length,i≤j∧j<k∧zdc L[j] x=true:=by
 by_cases l:i=k
 ·subst l;rw [zdd L x i hk hk1 hx];simp;intro j c e d;omega
 ·have h:i<L.length:=by omega
  have c:=hno i h (Nat.le_refl _) (by omega);by_cases f:zdc L[i] x=true
  ·rw [zdd L x i h c f];constructor
   ·intro _;exact⟨i,h,Nat.le_refl _,by omega,f⟩
   ·intro _;simp;omega
  ·rw [zcd L x i h c (by simpa using f),zj7 L x k hk hx hk1 (i+1) (by omega) (fun j h a b=>hno j h (by omega) b)];constructor
   ·rintro⟨j,g,c,e,d⟩;exact⟨j,g,by omega,e,d⟩
   ·rintro⟨j,g,c,e,d⟩;refine⟨j,g,?_,e,d⟩;rcases Nat.lt_or_eq_of_le c with c|c
    ·omega
    ·subst c;exact absurd d f
termination_by k-i
structure Inv(L:List Said)(j o:Nat)(F:List Fn)(f:Fn):Prop where
 own:zcw L j=(o:Int)
 le:o≤j
 names:∀ x,((F++[f]).map Fn.name).any (fun y=>eqW y x)=true↔∃ i,∃ h:i<L.length,i<j+1∧isFn L[i] x=true
 labs:∀ x,(zcl f.body).any (fun y=>eqW y x)=true↔∃ i,∃ h:i<L.length,o+1≤i∧i<j+1∧zdc L[i] x=true
 nof:∀ i,∀ h:i<L.length,o+1≤i→i<j+1→¬L[i].kind=102
theorem zl3(b:List Key)(k:Key)(x:ByteArray):(zcl (b++[k])).any (fun y=>eqW y x)=((zcl b).any (fun y=>eqW y x)||(decide (k.sort=1)&&eqW k.nm x)):=by
 unfold zcl;rw [List.filter_append,List.map_append,List.any_append];by_cases h:k.sort=1 <;> simp [h]
theorem Inv.more{L:List Said}{j o:Nat}{F:List Fn}{f:Fn}(I:Inv L j o F f)(h:j+1<L.length)(h1:¬L[j+1].kind=102)(b':List Key)
  (hb:∀ x,(zcl b').any (fun y=>eqW y x)=((zcl f.body).any (fun y=>eqW y x)||zdc L[j+1] x)):Inv L (j+1) o F ⟨f.name,f.line,b'⟩:=by
 refine⟨(zdY L j h h1).trans I.own,by have:=I.le;omega,?_,?_,?_⟩
 ·intro x;have:=I.names x;simp only [List.map_append,List.map_cons,List.map_nil] at this ⊢;rw [this];constructor
  ·rintro⟨i,a,c,b⟩;exact⟨i,a,by omega,b⟩
  ·rintro⟨i,a,c,b⟩;refine⟨i,a,?_,b⟩;by_cases e:i=j+1
   ·subst e;simp [isFn,h1] at b
   ·omega
 ·intro x;rw [hb,Bool.or_eq_true,I.labs x];have:=I.le;constructor
  ·rintro(⟨i,a,c,b,d⟩|d)
   ·exact⟨i,a,c,by omega,d⟩
   ·exact⟨j+1,h,by omega,by omega,d⟩
  ·rintro⟨i,a,c,b,d⟩;by_cases e:i=j+1
   ·subst e;exact .inr d
   ·exact .inl ⟨i,a,c,by omega,d⟩
 ·intro i a c b;by_cases e:i=j+1
  ·subst e;exact h1
  ·exact I.nof i a c (by omega)
theorem Inv.next{L:List Said}{j o:Nat}{F:List Fn}{f:Fn}(I:Inv L j o F f)(h:j+1<L.length)(h1:L[j+1].kind=102)(l:Int):Inv L (j+1) (j+1) (F++[f]) ⟨L[j+1].word 1,l,[]⟩:=by
 refine⟨zfX L (j+1) h h1,Nat.le_refl _,?_,?_,?_⟩
 ·intro x;rw [List.map_append,List.any_append,Bool.or_eq_true,I.names x];constructor
  ·rintro(⟨i,b,c,a⟩|a)
   ·exact⟨i,b,by omega,a⟩
   ·exact⟨j+1,h,by omega,by simpa [isFn,h1] using a⟩
  ·rintro⟨i,b,c,a⟩;by_cases e:i=j+1
   ·subst e;exact .inr (by simpa [isFn,h1] using a)
   ·exact .inl ⟨i,b,by omega,a⟩
 ·intro x;simp [zcl];intro i b c a;omega
 ·intro i b c a;omega
theorem zte(L:List Said)(hw:WfAll L)(c:Int × Int)(j o:Nat)(F:List Fn)(f:Fn)(I:Inv L j o F f):pass L 0 (j+1) c=ze8 3 (zbg (F++[f]) (zbu L (j+1))) c:=by
 by_cases h:j+1<L.length
 ·by_cases l:L[j+1].kind=0
  ·have d:badB L 0 (j+1)=false:=by simp [badB,zcS,List.getElem?_eq_getElem h,l]
   rw [zcr L 0 (j+1) c h d,zd5 L (j+1) h l];exact zte L hw c (j+1) o F f (I.more h (by omega) f.body (by intro x;simp [zdc,l]))
  ·rw [zbD L (j+1) h l];by_cases a:L[j+1].kind=102
   ·have d:badB L 0 (j+1)=bad0 (F++[f]) (keyQ L[j+1] (((j+1:Nat):Int)+1)):=by
     have e:badB L 0 (j+1)=decide (zaN L (L[j+1].word 1) 0<((j+1:Nat):Int)):=by simp [badB,zcS,List.getElem?_eq_getElem h,a]
     rw [e,Bool.eq_iff_iff,zio L _ (j+1) h (by simp [isFn,a,eqW]) 0 (Nat.zero_le _)];have q:bad0 (F++[f]) (keyQ L[j+1] (((j+1:Nat):Int)+1))=((F++[f]).map Fn.name).any (fun y=>eqW y (L[j+1].word 1)):=by
      unfold bad0 keyQ;dsimp only;rw [if_pos (zeI _ a),zgB _ a]
     rw [q,I.names];constructor
     ·rintro⟨i,m,_,b,n⟩;exact⟨i,m,b,n⟩
     ·rintro⟨i,m,b,n⟩;exact⟨i,m,Nat.zero_le _,b,n⟩
    unfold zbg;cases g:bad0 (F++[f]) (keyQ L[j+1] (((j+1:Nat):Int)+1)) with
    | true=>rw [zdy L 0 (j+1) c h (d.trans g)];rfl
    | false =>
     rw [zcr L 0 (j+1) c h (d.trans g),zcK _ _ (zeI _ a)];have k:=I.next h a (((j+1:Nat):Int)+1);rw [zte L hw c (j+1) _ _ _ k];simp [keyQ,zgB _ a]
   ·by_cases b:L[j+1].kind=108
    ·have d:badB L 0 (j+1)=bad0 (F++[f]) (keyQ L[j+1] (((j+1:Nat):Int)+1)):=by
      have p:zcw L (j+1)=(o:Int):=(zdY L j h a).trans I.own;have e:badB L 0 (j+1)=decide (zaY L (L[j+1].word 0) (o+1)<((j+1:Nat):Int)):=by
       simp only [badB,zcS,List.getElem?_eq_getElem h,b,zcj,p];rfl
      have hle:=I.le;rw [e,Bool.eq_iff_iff,zj7 L _ (j+1) h (by simp [zdc,b,eqW]) a (o+1) (by omega) I.nof];have q:bad0 (F++[f]) (keyQ L[j+1] (((j+1:Nat):Int)+1))=(zcl f.body).any (fun y=>eqW y (L[j+1].word 0)):=by
       unfold bad0 keyQ;dsimp only;rw [if_neg (zfB _ a),if_pos (zfA _ b),zk6 _ b];simp
      rw [q,I.labs]
     unfold zbg;cases g:bad0 (F++[f]) (keyQ L[j+1] (((j+1:Nat):Int)+1)) with
     | true=>rw [zdy L 0 (j+1) c h (d.trans g)];rfl
     | false =>
      rw [zcr L 0 (j+1) c h (d.trans g),zgg _ _ _ (zfB _ a)];have k:=I.more h a (f.body++[keyQ L[j+1] (((j+1:Nat):Int)+1)]) (by
       intro x;rw [zl3];simp [keyQ,zfA _ b,zk6 _ b,zdc,b])
      rw [zte L hw c (j+1) _ _ _ k];rfl
    ·have d:badB L 0 (j+1)=false:=by simp [badB,zcS,List.getElem?_eq_getElem h,a,b]
     have g:bad0 (F++[f]) (keyQ L[j+1] (((j+1:Nat):Int)+1))=false:=by
      simp [bad0,keyQ,zeJ _ a b]
     unfold zbg;rw [g,zcr L 0 (j+1) c h d,zgg _ _ _ (zfB _ a)];have k:=I.more h a (f.body++[keyQ L[j+1] (((j+1:Nat):Int)+1)]) (by
      intro x;rw [zl3];simp [keyQ,zeJ _ a b,zdc,b])
     rw [zte L hw c (j+1) _ _ _ k];rfl
 ·rw [zdJ L 0 (j+1) c h,zdt L _ h];rfl
termination_by L.length-j
def sayK(K:List Key):Int × Int :=
 match K with
 | []=>(2,0)
 | k :: _=>if k.sort=0 then ze8 3 (zbg [] K) (ze8 4 (zcX ((K.foldl addK []).map Fn.name) (K.foldl addK [])) (ze8 5 (endK (K.foldl addK [])) (0,0))) else(2,k.line)
theorem ztf(L:List Said)(q i:Nat)(c:Int × Int)(h:i<L.length)(h0:L[i].kind=0):pass L q i c=pass L q (i+1) c:=by
 refine zcr L q i c h ?_;unfold badB;split
 ·simp [zcS,List.getElem?_eq_getElem h,h0]
 ·split
  ·simp [zaK,List.getElem?_eq_getElem h,h0]
  ·simp [zbs,List.getElem?_eq_getElem h,h0]
theorem zgC(L:List Said)(q p:Nat)(c:Int × Int)(hp:p≤L.length)(hz:∀ j,∀ h:j<L.length,j<p→L[j].kind=0):pass L q 0 c=pass L q p c:=by
 induction p with
 | zero=>rfl
 | succ p ih=>rw [ih (by omega) (fun j h h'=>hz j h (by omega)),ztf L q p c (by omega) (hz p (by omega) (by omega))]
theorem ztg(L:List Said)(p:Nat)(hp:p≤L.length)(hz:∀ j,∀ h:j<L.length,j<p→L[j].kind=0):zbc L 0=zbc L p:=by
 induction p with
 | zero=>rfl
 | succ p ih=>rw [ih (by omega) (fun j h h'=>hz j h (by omega)),zce L p (by omega) (by rw [hz p (by omega) (by omega)];decide)]
theorem zl4(L:List Said)(hw:WfAll L)(hn:NmOk L)(i:Nat)(hi:i≤L.length)(hz:∀ j,∀ h:j<L.length,j<i→L[j].kind=0):zbt L i=sayK (zbu L i):=by
 by_cases h:i<L.length
 ·by_cases b:L[i].kind=0
  ·rw [zfg L i h b,zd5 L i h b];refine zl4 L hw hn (i+1) h (fun j f h'=>?_);by_cases e:j=i
   ·subst e;exact b
   ·exact hz j f (by omega)
  ·by_cases a:L[i].kind=102
   ·rw [zfY L i h b a];have hF:(zbu L i).foldl addK []=zbc L i:=by
     rw [zbD L i h b,List.foldl_cons,zcK _ _ (zeI _ a),zgh,zcs L i h a];simp [keyQ,zgB _ a]
    have m:∀ x,((zbc L i).map Fn.name).any (fun y=>eqW y x)=decide (0≤zaN L x 0):=by
     intro x;rw [←ztg L i hi hz];exact znz L 0 x
    have l:=zfX L i h a;have p:∀ c,pass L 1 0 c=ze8 4 (zcX ((zbc L i).map Fn.name) (zbc L i)) c:=by
     intro c;have k:badB L 1 i=false:=by simp [badB,zaK,List.getElem?_eq_getElem h,a]
     rw [zgC L 1 i c hi hz,zcr L 1 i c h k,zvT L hw hn _ m c i i l (zcl (zar L (i+1))) (fun x=>zgi L (i+1) x)]
     conv=>rhs;rw [zcs L i h a]
     rw [zcs L i h a];rfl
    have q:∀ c,pass L 2 0 c=ze8 5 (endK (zbc L i)) c:=by
     intro c;rw [zgC L 2 i c hi hz,zyb L hw i c]
    have I:Inv L i i [] ⟨L[i].word 1,(i:Int)+1,[]⟩:=by
     refine⟨l,Nat.le_refl _,?_,?_,?_⟩
     ·intro x;constructor
      ·intro d;exact⟨i,h,by omega,by simpa [isFn,a] using d⟩
      ·rintro⟨j,f,g,d⟩;by_cases e:j=i
       ·subst e;simpa [isFn,a] using d
       ·have:=hz j f (by omega);simp [isFn,this] at d
     ·intro x;simp [zcl];intro j f g d;omega
     ·intro j f g d;omega
    have o:∀ c,pass L 0 0 c=ze8 3 (zbg [] (zbu L i)) c:=by
     intro c;have k:badB L 0 i=false:=by
      have e:badB L 0 i=decide (zaN L (L[i].word 1) 0<(i:Int)):=by simp [badB,zcS,List.getElem?_eq_getElem h,a]
      rw [e,Bool.eq_false_iff];intro g;obtain⟨j,f,_,d,n⟩:=(zio L _ i h (by simp [isFn,a,eqW]) 0 (Nat.zero_le _)).1 g;have:=hz j f d;simp [isFn,this] at n
     rw [zgC L 0 i c hi hz,zcr L 0 i c h k,zte L hw c i i [] _ I,zbD L i h b]
     conv=>rhs;unfold zbg
     rw [zcK _ _ (zeI _ a)];simp [bad0,keyQ,zeI _ a,zgB _ a]
    have ht:tail L 0=pass L 0 0 (pass L 1 0 (pass L 2 0 (0,0))):=rfl;rw [ht,o,p,q];unfold sayK;rw [hF]
    conv=>rhs;rw [zbD L i h b]
    dsimp only;rw [if_pos (show(keyQ L[i] ((i:Int)+1)).sort=0 from zeI _ a),←zbD L i h b]
   ·rw [zfZ L i h b a,zbD L i h b];unfold sayK;dsimp only;rw [if_neg (show ¬(keyQ L[i] ((i:Int)+1)).sort=0 from zfB _ a)];rfl
 ·rw [zeu L i h,zdt L i h];rfl
termination_by L.length-i
theorem zzM(s:ByteArray)(h:(say s).ok=true)(h5:(say s).kind=105)(ha:zaJ ((say s).word 0)=true∨zc2 ((say s).word 0)=true):zdP (say s)=(say s).last:=by
 have f:zau s 0=true:=by
  cases f:zau s 0 with
  | true=>rfl
  | false=>rw [zf9 s f] at h;cases h
 rw [zig s f] at h h5 ha ⊢;generalize words s=l at h h5 ha ⊢;cases l with
 | nil=>simp [sayW] at h5
 | cons x r =>
  have e:sayW (x :: r)=⟨105,x :: r,if zaa x=[63]∨¬(x :: r).length=(zaa x).length+1 then false else zaX (zaa x) r⟩:=by
   unfold sayW at h5 ⊢;dsimp only at h5 ⊢;split at h5
   ·simp at h5
   ·rename_i hf;rw [if_neg hf];split at h5
    ·simp at h5
    ·rename_i hg;rw [if_neg hg]
  rw [e] at h ha ⊢;have j:(⟨105,x :: r,if zaa x=[63]∨¬(x :: r).length=(zaa x).length+1 then false else zaX (zaa x) r⟩:Said).word 0=x:=rfl;rw [j] at ha;have a:(x :: r).length=(zaa x).length+1:=by
   by_cases g:zaa x=[63]∨¬(x :: r).length=(zaa x).length+1
   ·simp only [if_pos g] at h;cases h
   ·rcases Classical.em ((x :: r).length=(zaa x).length+1) with i|i
    ·exact i
    ·exact absurd (.inr i) g
  have d:zaa x=[78]∨zaa x=[82,82,78]:=by
   unfold zaJ zc2 isW at ha;simp only [Bool.or_eq_true,beq_iff_eq] at ha;unfold zaa isW;rcases ha with ((ha|ha)|ha)|ha <;> rw [ha] <;> decide
  unfold zdP Said.last;rw [if_neg (show ¬(105:Int)=102 by decide),if_neg (show ¬(105:Int)=108 by decide),j];rcases d with hs|hs
  ·rw [hs] at a ⊢
   match r,a with
   | [a],_=>rfl
  ·rw [hs] at a ⊢
   match r,a with
   | [a,b,c],_=>rfl
theorem zfk(A:List ByteArray)(hok:∀ x∈A,(say x).ok=true):zbt (A.map say) 0=sayK (zbl A A.length):=by
 rw [zk7 A];refine zl4 _ ?_ ?_ 0 (Nat.zero_le _) (fun j h h'=>absurd h' (Nat.not_lt_zero _))
 ·intro q a;obtain⟨x,b,rfl⟩:=List.mem_map.1 a;exact zsN x (hok x b)
 ·intro q a;obtain⟨x,b,rfl⟩:=List.mem_map.1 a;exact zzM x (hok x b)
inductive Form:List ByteArray→Prop
 | set_ (x1 x2:ByteArray) (hx1:0≤reg x1) (hx2:(zaI x2).2=true):Form [⟨#[115,101,116]⟩,x1,x2]
 | inc_ (x1 x2:ByteArray) (hx1:0≤reg x1) (hx2:(zaI x2).2=true):Form [⟨#[105,110,99]⟩,x1,x2]
 | mov_ (x1 x2:ByteArray) (hx1:0≤reg x1) (hx2:0≤reg x2):Form [⟨#[109,111,118]⟩,x1,x2]
 | load_ (x1 x2:ByteArray) (hx1:0≤reg x1) (hx2:0≤reg x2):Form [⟨#[108,111,97,100]⟩,x1,x2]
 | store_ (x1 x2:ByteArray) (hx1:0≤reg x1) (hx2:0≤reg x2):Form [⟨#[115,116,111,114,101]⟩,x1,x2]
 | add_ (x1 x2 x3:ByteArray) (hx1:0≤reg x1) (hx2:0≤reg x2) (hx3:0≤reg x3):Form [⟨#[97,100,100]⟩,x1,x2,x3]
 | sub_ (x1 x2 x3:ByteArray) (hx1:0≤reg x1) (hx2:0≤reg x2) (hx3:0≤reg x3):Form [⟨#[115,117,98]⟩,x1,x2,x3]
 | mul_ (x1 x2 x3:ByteArray) (hx1:0≤reg x1) (hx2:0≤reg x2) (hx3:0≤reg x3):Form [⟨#[109,117,108]⟩,x1,x2,x3]
 | read_ (x1:ByteArray) (hx1:0≤reg x1):Form [⟨#[114,101,97,100]⟩,x1]
 | write_ (x1:ByteArray) (hx1:0≤reg x1):Form [⟨#[119,114,105,116,101]⟩,x1]
 | jump_ (x1:ByteArray) (hx1:za8 x1=true):Form [⟨#[106,117,109,112]⟩,x1]
 | call_ (x1:ByteArray) (hx1:za8 x1=true):Form [⟨#[99,97,108,108]⟩,x1]
 | less_ (x1 x2 x3:ByteArray) (hx1:0≤reg x1) (hx2:0≤reg x2) (hx3:za8 x3=true):Form [⟨#[108,101,115,115]⟩,x1,x2,x3]
 | same_ (x1 x2 x3:ByteArray) (hx1:0≤reg x1) (hx2:0≤reg x2) (hx3:za8 x3=true):Form [⟨#[115,97,109,101]⟩,x1,x2,x3]
 | back_:Form [⟨#[98,97,99,107]⟩]
 | stop_:Form [⟨#[115,116,111,112]⟩]
theorem op_r(x:ByteArray):opOk 82 x=decide (0≤reg x):=rfl
theorem op_k(x:ByteArray):opOk 75 x=(zaI x).2:=rfl
theorem op_n(x:ByteArray):opOk 78 x=za8 x:=rfl
theorem zyk(x:ByteArray)(r:List ByteArray)(h:zhv x r=true):Form (x :: r):=by
 unfold zhv at h;cases h0:(x.toList == [115,101,116]) with
 | true =>
  have:=za0 x _ h0;subst this;change (if zaa ⟨#[115,101,116]⟩=[63]∨¬r.length=(zaa ⟨#[115,101,116]⟩).length then false else zaX (zaa ⟨#[115,101,116]⟩) r)=true at h;rw [zhP] at h;split at h
  ·cases h
  ·rename_i hc;have b:r.length=2:=by
    rcases Nat.decEq r.length 2 with a|a
    ·exact absurd (.inr (by simpa using a)) hc
    ·exact a
   match r,b,h with
   | [x1,x2],_,h =>
    simp only [zaX,op_r,op_k,Bool.and_true,Bool.and_eq_true,decide_eq_true_eq] at h;exact .set_ x1 x2 h.1 h.2
 | false =>
  cases h1:(x.toList == [105,110,99]) with
  | true =>
   have:=za0 x _ h1;subst this;change (if zaa ⟨#[105,110,99]⟩=[63]∨¬r.length=(zaa ⟨#[105,110,99]⟩).length then false else zaX (zaa ⟨#[105,110,99]⟩) r)=true at h;rw [zhQ] at h;split at h
   ·cases h
   ·rename_i hc;have b:r.length=2:=by
     rcases Nat.decEq r.length 2 with a|a
     ·exact absurd (.inr (by simpa using a)) hc
     ·exact a
    match r,b,h with
    | [x1,x2],_,h =>
     simp only [zaX,op_r,op_k,Bool.and_true,Bool.and_eq_true,decide_eq_true_eq] at h;exact .inc_ x1 x2 h.1 h.2
  | false =>
   cases h2:(x.toList == [109,111,118]) with
   | true =>
    have:=za0 x _ h2;subst this;change (if zaa ⟨#[109,111,118]⟩=[63]∨¬r.length=(zaa ⟨#[109,111,118]⟩).length then false else zaX (zaa ⟨#[109,111,118]⟩) r)=true at h;rw [zhR] at h;split at h
    ·cases h
    ·rename_i hc;have b:r.length=2:=by
      rcases Nat.decEq r.length 2 with a|a
      ·exact absurd (.inr (by simpa using a)) hc
      ·exact a
     match r,b,h with
     | [x1,x2],_,h =>
      simp only [zaX,op_r,Bool.and_true,Bool.and_eq_true,decide_eq_true_eq] at h;exact .mov_ x1 x2 h.1 h.2
   | false =>
    cases h3:(x.toList == [108,111,97,100]) with
    | true =>
     have:=za0 x _ h3;subst this;change (if zaa ⟨#[108,111,97,100]⟩=[63]∨¬r.length=(zaa ⟨#[108,111,97,100]⟩).length then false else zaX (zaa ⟨#[108,111,97,100]⟩) r)=true at h;rw [zhc] at h;split at h
     ·cases h
     ·rename_i hc;have b:r.length=2:=by
       rcases Nat.decEq r.length 2 with a|a
       ·exact absurd (.inr (by simpa using a)) hc
       ·exact a
      match r,b,h with
      | [x1,x2],_,h =>
       simp only [zaX,op_r,Bool.and_true,Bool.and_eq_true,decide_eq_true_eq] at h;exact .load_ x1 x2 h.1 h.2
    | false =>
     cases h4:(x.toList == [115,116,111,114,101]) with
     | true =>
      have:=za0 x _ h4;subst this;change (if zaa ⟨#[115,116,111,114,101]⟩=[63]∨¬r.length=(zaa ⟨#[115,116,111,114,101]⟩).length then false else zaX (zaa ⟨#[115,116,111,114,101]⟩) r)=true at h;rw [zfU] at h;split at h
      ·cases h
      ·rename_i hc;have b:r.length=2:=by
        rcases Nat.decEq r.length 2 with a|a
        ·exact absurd (.inr (by simpa using a)) hc
        ·exact a
       match r,b,h with
       | [x1,x2],_,h =>
        simp only [zaX,op_r,Bool.and_true,Bool.and_eq_true,decide_eq_true_eq] at h;exact .store_ x1 x2 h.1 h.2
     | false =>
      cases h5:(x.toList == [97,100,100]) with
      | true =>
       have:=za0 x _ h5;subst this;change (if zaa ⟨#[97,100,100]⟩=[63]∨¬r.length=(zaa ⟨#[97,100,100]⟩).length then false else zaX (zaa ⟨#[97,100,100]⟩) r)=true at h;rw [zhS] at h;split at h
       ·cases h
       ·rename_i hc;have b:r.length=3:=by
         rcases Nat.decEq r.length 3 with a|a
         ·exact absurd (.inr (by simpa using a)) hc
         ·exact a
        match r,b,h with
        | [x1,x2,x3],_,h =>
         simp only [zaX,op_r,Bool.and_true,Bool.and_eq_true,decide_eq_true_eq] at h;exact .add_ x1 x2 x3 h.1 h.2.1 h.2.2
      | false =>
       cases h6:(x.toList == [115,117,98]) with
       | true =>
        have:=za0 x _ h6;subst this;change (if zaa ⟨#[115,117,98]⟩=[63]∨¬r.length=(zaa ⟨#[115,117,98]⟩).length then false else zaX (zaa ⟨#[115,117,98]⟩) r)=true at h;rw [zhT] at h;split at h
        ·cases h
        ·rename_i hc;have b:r.length=3:=by
          rcases Nat.decEq r.length 3 with a|a
          ·exact absurd (.inr (by simpa using a)) hc
          ·exact a
         match r,b,h with
         | [x1,x2,x3],_,h =>
          simp only [zaX,op_r,Bool.and_true,Bool.and_eq_true,decide_eq_true_eq] at h;exact .sub_ x1 x2 x3 h.1 h.2.1 h.2.2
       | false =>
        cases h7:(x.toList == [109,117,108]) with
        | true =>
         have:=za0 x _ h7;subst this;change (if zaa ⟨#[109,117,108]⟩=[63]∨¬r.length=(zaa ⟨#[109,117,108]⟩).length then false else zaX (zaa ⟨#[109,117,108]⟩) r)=true at h;rw [zhU] at h;split at h
         ·cases h
         ·rename_i hc;have b:r.length=3:=by
           rcases Nat.decEq r.length 3 with a|a
           ·exact absurd (.inr (by simpa using a)) hc
           ·exact a
          match r,b,h with
          | [x1,x2,x3],_,h =>
           simp only [zaX,op_r,Bool.and_true,Bool.and_eq_true,decide_eq_true_eq] at h;exact .mul_ x1 x2 x3 h.1 h.2.1 h.2.2
        | false =>
         cases h8:(x.toList == [114,101,97,100]) with
         | true =>
          have:=za0 x _ h8;subst this;change (if zaa ⟨#[114,101,97,100]⟩=[63]∨¬r.length=(zaa ⟨#[114,101,97,100]⟩).length then false else zaX (zaa ⟨#[114,101,97,100]⟩) r)=true at h;rw [zhd] at h;split at h
          ·cases h
          ·rename_i hc;have b:r.length=1:=by
            rcases Nat.decEq r.length 1 with a|a
            ·exact absurd (.inr (by simpa using a)) hc
            ·exact a
           match r,b,h with
           | [x1],_,h =>
            simp only [zaX,op_r,Bool.and_true,decide_eq_true_eq] at h;exact .read_ x1 h
         | false =>
          cases h9:(x.toList == [119,114,105,116,101]) with
          | true =>
           have:=za0 x _ h9;subst this;change (if zaa ⟨#[119,114,105,116,101]⟩=[63]∨¬r.length=(zaa ⟨#[119,114,105,116,101]⟩).length then false else zaX (zaa ⟨#[119,114,105,116,101]⟩) r)=true at h;rw [zfV] at h;split at h
           ·cases h
           ·rename_i hc;have b:r.length=1:=by
             rcases Nat.decEq r.length 1 with a|a
             ·exact absurd (.inr (by simpa using a)) hc
             ·exact a
            match r,b,h with
            | [x1],_,h =>
             simp only [zaX,op_r,Bool.and_true,decide_eq_true_eq] at h;exact .write_ x1 h
          | false =>
           cases h10:(x.toList == [106,117,109,112]) with
           | true =>
            have:=za0 x _ h10;subst this;change (if zaa ⟨#[106,117,109,112]⟩=[63]∨¬r.length=(zaa ⟨#[106,117,109,112]⟩).length then false else zaX (zaa ⟨#[106,117,109,112]⟩) r)=true at h;rw [zhe] at h;split at h
            ·cases h
            ·rename_i hc;have b:r.length=1:=by
              rcases Nat.decEq r.length 1 with a|a
              ·exact absurd (.inr (by simpa using a)) hc
              ·exact a
             match r,b,h with
             | [x1],_,h =>
              simp only [zaX,op_n,Bool.and_true] at h;exact .jump_ x1 h
           | false =>
            cases h11:(x.toList == [99,97,108,108]) with
            | true =>
             have:=za0 x _ h11;subst this;change (if zaa ⟨#[99,97,108,108]⟩=[63]∨¬r.length=(zaa ⟨#[99,97,108,108]⟩).length then false else zaX (zaa ⟨#[99,97,108,108]⟩) r)=true at h;rw [zhf] at h;split at h
             ·cases h
             ·rename_i hc;have b:r.length=1:=by
               rcases Nat.decEq r.length 1 with a|a
               ·exact absurd (.inr (by simpa using a)) hc
               ·exact a
              match r,b,h with
              | [x1],_,h =>
               simp only [zaX,op_n,Bool.and_true] at h;exact .call_ x1 h
            | false =>
             cases h12:(x.toList == [108,101,115,115]) with
             | true =>
              have:=za0 x _ h12;subst this;change (if zaa ⟨#[108,101,115,115]⟩=[63]∨¬r.length=(zaa ⟨#[108,101,115,115]⟩).length then false else zaX (zaa ⟨#[108,101,115,115]⟩) r)=true at h;rw [zhg] at h;split at h
              ·cases h
              ·rename_i hc;have b:r.length=3:=by
                rcases Nat.decEq r.length 3 with a|a
                ·exact absurd (.inr (by simpa using a)) hc
                ·exact a
               match r,b,h with
               | [x1,x2,x3],_,h =>
                simp only [zaX,op_r,op_n,Bool.and_true,Bool.and_eq_true,decide_eq_true_eq] at h;exact .less_ x1 x2 x3 h.1 h.2.1 h.2.2
             | false =>
              cases h13:(x.toList == [115,97,109,101]) with
              | true =>
               have:=za0 x _ h13;subst this;change (if zaa ⟨#[115,97,109,101]⟩=[63]∨¬r.length=(zaa ⟨#[115,97,109,101]⟩).length then false else zaX (zaa ⟨#[115,97,109,101]⟩) r)=true at h;rw [zhh] at h;split at h
               ·cases h
               ·rename_i hc;have b:r.length=3:=by
                 rcases Nat.decEq r.length 3 with a|a
                 ·exact absurd (.inr (by simpa using a)) hc
                 ·exact a
                match r,b,h with
                | [x1,x2,x3],_,h =>
                 simp only [zaX,op_r,op_n,Bool.and_true,Bool.and_eq_true,decide_eq_true_eq] at h;exact .same_ x1 x2 x3 h.1 h.2.1 h.2.2
              | false =>
               cases h14:(x.toList == [98,97,99,107]) with
               | true =>
                have:=za0 x _ h14;subst this;change (if zaa ⟨#[98,97,99,107]⟩=[63]∨¬r.length=(zaa ⟨#[98,97,99,107]⟩).length then false else zaX (zaa ⟨#[98,97,99,107]⟩) r)=true at h;rw [zhi] at h;split at h
                ·cases h
                ·rename_i hc;have b:r.length=0:=by
                  rcases Nat.decEq r.length 0 with a|a
                  ·exact absurd (.inr (by simpa using a)) hc
                  ·exact a
                 obtain rfl:r=[]:=List.eq_nil_of_length_eq_zero b;exact .back_
               | false =>
                cases h15:(x.toList == [115,116,111,112]) with
                | true =>
                 have:=za0 x _ h15;subst this;change (if zaa ⟨#[115,116,111,112]⟩=[63]∨¬r.length=(zaa ⟨#[115,116,111,112]⟩).length then false else zaX (zaa ⟨#[115,116,111,112]⟩) r)=true at h;rw [zhj] at h;split at h
                 ·cases h
                 ·rename_i hc;have b:r.length=0:=by
                   rcases Nat.decEq r.length 0 with a|a
                   ·exact absurd (.inr (by simpa using a)) hc
                   ·exact a
                  obtain rfl:r=[]:=List.eq_nil_of_length_eq_zero b;exact .stop_
                | false =>
                 rw [if_pos (.inl (zo7 x h0 h1 h2 h3 h4 h5 h6 h7 h8 h9 h10 h11 h12 h13 h14 h15))] at h;cases h
theorem zax(x:ByteArray)(h:0≤reg x):regN x<8∧reg x=(regN x:Int):=by
 have:reg x≤7:=by
  unfold reg at h ⊢;split
  ·rename_i hb;unfold regB at hb;simp at hb;omega
  ·omega
 unfold regN;omega
theorem zyl(s:ByteArray)(h:(say s).ok=true)(h5:(say s).kind=105):Form (say s).kept:=by
 have a:zau s 0=true:=by
  cases a:zau s 0 with
  | true=>rfl
  | false=>rw [zf9 s a] at h;cases h
 rw [zig s a] at h h5 ⊢;generalize words s=l at h h5 ⊢;cases l with
 | nil=>simp [sayW] at h5
 | cons x r =>
  have e:sayW (x :: r)=⟨105,x :: r,if zaa x=[63]∨¬(x :: r).length=(zaa x).length+1 then false else zaX (zaa x) r⟩:=by
   unfold sayW at h5 ⊢;dsimp only at h5 ⊢;split at h5
   ·simp at h5
   ·rename_i hf;rw [if_neg hf];split at h5
    ·simp at h5
    ·rename_i hg;rw [if_neg hg]
  rw [e] at h ⊢;refine zyk x r ?_;simpa [zhv] using h
end Go.Proofs.YtfpgjkbjbbgciaaGreatDoor
