import Derived.Test.YtfpgjkbjbbgciaaGreatDoorMi20
import Derived.Test.YtfpgjkbjbbgciaaGreatDoorMi21
set_option maxRecDepth 100000
set_option maxHeartbeats 8000000
namespace Go.Proofs.YtfpgjkbjbbgciaaGreatDoor
section
open Sp
theorem zik(L:List Said)(x:ByteArray)(k:Nat)(hk:k<L.length)(hx:isFn L[k] x=true)(i:Nat)(hi:i≤k):decide (zb3 L x i<k)=true↔∃ j,∃ h:j<L.length,i≤j∧j<k∧isFn L[j] x=true:=by
 by_cases hik:i=k
 ·subst hik
  rw [zdg L x i hk hx]
  simp
  intro j h1 h2 h3;omega
 ·have h:i<L.length:=by omega
  by_cases hf:isFn L[i] x=true
  ·rw [zdg L x i h hf]
   constructor
   ·intro _;exact⟨i,h,Nat.le_refl _,by omega,hf⟩
   ·intro _;simp;omega
  ·rw [zdl L x i h (by simpa using hf),zik L x k hk hx (i+1) (by omega)]
   constructor
   ·rintro⟨j,hj,h1,h2,h3⟩;exact⟨j,hj,by omega,h2,h3⟩
   ·rintro⟨j,hj,h1,h2,h3⟩
    refine⟨j,hj,?_,h2,h3⟩
    rcases Nat.lt_or_eq_of_le h1 with h1|h1
    ·omega
    ·subst h1;exact absurd h3 hf
termination_by k-i
theorem zj7(L:List Said)(x:ByteArray)(k:Nat)(hk:k<L.length)(hx:zcF L[k] x=true)(hk1:¬L[k].kind=102)(i:Nat)(hi:i≤k)(hno:∀ j,∀ h:j<L.length,i≤j→j<k→¬L[j].kind=102):decide (zaY L x i<k)=true↔∃ j,∃ h:j<L.length,i≤j∧j<k∧zcF L[j] x=true:=by
 by_cases hik:i=k
 ·subst hik
  rw [zcs L x i hk hk1 hx]
  simp
  intro j h1 h2 h3;omega
 ·have h:i<L.length:=by omega
  have h1:=hno i h (Nat.le_refl _) (by omega)
  by_cases hf:zcF L[i] x=true
  ·rw [zcs L x i h h1 hf]
   constructor
   ·intro _;exact⟨i,h,Nat.le_refl _,by omega,hf⟩
   ·intro _;simp;omega
  ·rw [zbF L x i h h1 (by simpa using hf),zj7 L x k hk hx hk1 (i+1) (by omega) (fun j h a b=>hno j h (by omega) b)]
   constructor
   ·rintro⟨j,hj,h1,h2,h3⟩;exact⟨j,hj,by omega,h2,h3⟩
   ·rintro⟨j,hj,h1,h2,h3⟩
    refine⟨j,hj,?_,h2,h3⟩
    rcases Nat.lt_or_eq_of_le h1 with h1|h1
    ·omega
    ·subst h1;exact absurd h3 hf
termination_by k-i
structure Inv(L:List Said)(j o:Nat)(F:List Fn)(f:Fn):Prop where
 own:zdS L j=(o:Int)
 le:o≤j
 names:∀ x,((F++[f]).map Fn.name).any (fun y=>eqW y x)=true↔∃ i,∃ h:i<L.length,i<j+1∧isFn L[i] x=true
 labs:∀ x,(labsOf f.body).any (fun y=>eqW y x)=true↔∃ i,∃ h:i<L.length,o+1≤i∧i<j+1∧zcF L[i] x=true
 nof:∀ i,∀ h:i<L.length,o+1≤i→i<j+1→¬L[i].kind=102
theorem zlr(b:List Key)(k:Key)(x:ByteArray):(labsOf (b++[k])).any (fun y=>eqW y x)=((labsOf b).any (fun y=>eqW y x)||(decide (k.sort=1)&&eqW k.nm x)):=by
 unfold labsOf
 rw [List.filter_append,List.map_append,List.any_append]
 by_cases h:k.sort=1 <;> simp [h]
theorem Inv.more{L:List Said}{j o:Nat}{F:List Fn}{f:Fn}(I:Inv L j o F f)(h:j+1<L.length)(h1:¬L[j+1].kind=102)(b':List Key)
  (hb:∀ x,(labsOf b').any (fun y=>eqW y x)=((labsOf f.body).any (fun y=>eqW y x)||zcF L[j+1] x)):Inv L (j+1) o F ⟨f.name,f.line,b'⟩:=by
 refine⟨(zdH L j h h1).trans I.own,by have:=I.le;omega,?_,?_,?_⟩
 ·intro x
  have:=I.names x
  simp only [List.map_append,List.map_cons,List.map_nil] at this ⊢
  rw [this]
  constructor
  ·rintro⟨i,hi,h2,h3⟩;exact⟨i,hi,by omega,h3⟩
  ·rintro⟨i,hi,h2,h3⟩
   refine⟨i,hi,?_,h3⟩
   by_cases e:i=j+1
   ·subst e;simp [isFn,h1] at h3
   ·omega
 ·intro x
  rw [hb,Bool.or_eq_true,I.labs x]
  have:=I.le
  constructor
  ·rintro(⟨i,hi,h2,h3,h4⟩|h4)
   ·exact⟨i,hi,h2,by omega,h4⟩
   ·exact⟨j+1,h,by omega,by omega,h4⟩
  ·rintro⟨i,hi,h2,h3,h4⟩
   by_cases e:i=j+1
   ·subst e;exact .inr h4
   ·exact .inl ⟨i,hi,h2,by omega,h4⟩
 ·intro i hi h2 h3
  by_cases e:i=j+1
  ·subst e;exact h1
  ·exact I.nof i hi h2 (by omega)
theorem Inv.next{L:List Said}{j o:Nat}{F:List Fn}{f:Fn}(I:Inv L j o F f)(h:j+1<L.length)(h1:L[j+1].kind=102)(l:Int):Inv L (j+1) (j+1) (F++[f]) ⟨L[j+1].word 1,l,[]⟩:=by
 refine⟨zfL L (j+1) h h1,Nat.le_refl _,?_,?_,?_⟩
 ·intro x
  rw [List.map_append,List.any_append,Bool.or_eq_true,I.names x]
  constructor
  ·rintro(⟨i,hi,h2,h3⟩|h3)
   ·exact⟨i,hi,by omega,h3⟩
   ·exact⟨j+1,h,by omega,by simpa [isFn,h1] using h3⟩
  ·rintro⟨i,hi,h2,h3⟩
   by_cases e:i=j+1
   ·subst e;exact .inr (by simpa [isFn,h1] using h3)
   ·exact .inl ⟨i,hi,by omega,h3⟩
 ·intro x
  simp [labsOf]
  intro i hi h2 h3;omega
 ·intro i hi h2 h3;omega
theorem zsv(L:List Said)(hw:WfAll L)(c:Int × Int)(j o:Nat)(F:List Fn)(f:Fn)(I:Inv L j o F f):pass L 0 (j+1) c=zem 3 (zaR (F++[f]) (zbd L (j+1))) c:=by
 by_cases h:j+1<L.length
 ·by_cases h0:L[j+1].kind=0
  ·have hb:badB L 0 (j+1)=false:=by simp [badB,zfh,List.getElem?_eq_getElem h,h0]
   rw [zc3 L 0 (j+1) c h hb,zdh L (j+1) h h0]
   exact zsv L hw c (j+1) o F f (I.more h (by omega) f.body (by intro x;simp [zcF,h0]))
  ·rw [zbq L (j+1) h h0]
   by_cases h1:L[j+1].kind=102
   ·have hb:badB L 0 (j+1)=bad0 (F++[f]) (keyQ L[j+1] (((j+1:Nat):Int)+1)):=by
     have e:badB L 0 (j+1)=decide (zb3 L (L[j+1].word 1) 0<((j+1:Nat):Int)):=by simp [badB,zfh,List.getElem?_eq_getElem h,h1]
     rw [e,Bool.eq_iff_iff,zik L _ (j+1) h (by simp [isFn,h1,eqW]) 0 (Nat.zero_le _)]
     have e2:bad0 (F++[f]) (keyQ L[j+1] (((j+1:Nat):Int)+1))=((F++[f]).map Fn.name).any (fun y=>eqW y (L[j+1].word 1)):=by
      unfold bad0 keyQ
      dsimp only
      rw [if_pos (zex _ h1),zg0 _ h1]
     rw [e2,I.names]
     constructor
     ·rintro⟨i,hi,_,h2,h3⟩;exact⟨i,hi,h2,h3⟩
     ·rintro⟨i,hi,h2,h3⟩;exact⟨i,hi,Nat.zero_le _,h2,h3⟩
    unfold zaR
    cases hk:bad0 (F++[f]) (keyQ L[j+1] (((j+1:Nat):Int)+1)) with
    | true=>rw [zfO L 0 (j+1) c h (hb.trans hk)];rfl
    | false =>
     rw [zc3 L 0 (j+1) c h (hb.trans hk),zcw _ _ (zex _ h1)]
     have hI:=I.next h h1 (((j+1:Nat):Int)+1)
     rw [zsv L hw c (j+1) _ _ _ hI]
     simp [keyQ,zg0 _ h1]
   ·by_cases h2:L[j+1].kind=108
    ·have hb:badB L 0 (j+1)=bad0 (F++[f]) (keyQ L[j+1] (((j+1:Nat):Int)+1)):=by
      have ho:zdS L (j+1)=(o:Int):=(zdH L j h h1).trans I.own
      have e:badB L 0 (j+1)=decide (zaY L (L[j+1].word 0) (o+1)<((j+1:Nat):Int)):=by
       simp only [badB,zfh,List.getElem?_eq_getElem h,h2,zes,ho]
       rfl
      have hle:=I.le
      rw [e,Bool.eq_iff_iff,zj7 L _ (j+1) h (by simp [zcF,h2,eqW]) h1 (o+1) (by omega) I.nof]
      have e2:bad0 (F++[f]) (keyQ L[j+1] (((j+1:Nat):Int)+1))=(labsOf f.body).any (fun y=>eqW y (L[j+1].word 0)):=by
       unfold bad0 keyQ
       dsimp only
       rw [if_neg (zf1 _ h1),if_pos (zf0 _ h2),zko _ h2]
       simp
      rw [e2,I.labs]
     unfold zaR
     cases hk:bad0 (F++[f]) (keyQ L[j+1] (((j+1:Nat):Int)+1)) with
     | true=>rw [zfO L 0 (j+1) c h (hb.trans hk)];rfl
     | false =>
      rw [zc3 L 0 (j+1) c h (hb.trans hk),zfT _ _ _ (zf1 _ h1)]
      have hI:=I.more h h1 (f.body++[keyQ L[j+1] (((j+1:Nat):Int)+1)]) (by
       intro x
       rw [zlr]
       simp [keyQ,zf0 _ h2,zko _ h2,zcF,h2])
      rw [zsv L hw c (j+1) _ _ _ hI]
      rfl
    ·have hb:badB L 0 (j+1)=false:=by simp [badB,zfh,List.getElem?_eq_getElem h,h1,h2]
     have hk:bad0 (F++[f]) (keyQ L[j+1] (((j+1:Nat):Int)+1))=false:=by
      simp [bad0,keyQ,zey _ h1 h2]
     unfold zaR
     rw [hk,zc3 L 0 (j+1) c h hb,zfT _ _ _ (zf1 _ h1)]
     have hI:=I.more h h1 (f.body++[keyQ L[j+1] (((j+1:Nat):Int)+1)]) (by
      intro x
      rw [zlr]
      simp [keyQ,zey _ h1 h2,zcF,h2])
     rw [zsv L hw c (j+1) _ _ _ hI]
     rfl
 ·rw [zfN L 0 (j+1) c h,zcV L _ h];rfl
termination_by L.length-j
def sayK(K:List Key):Int × Int :=
 match K with
 | []=>(2,0)
 | k :: _=>if k.sort=0 then zem 3 (zaR [] K) (zem 4 (zcA ((K.foldl addK []).map Fn.name) (K.foldl addK [])) (zem 5 (endK (K.foldl addK [])) (0,0))) else(2,k.line)
theorem zsw(L:List Said)(q i:Nat)(c:Int × Int)(h:i<L.length)(h0:L[i].kind=0):pass L q i c=pass L q (i+1) c:=by
 refine zc3 L q i c h ?_
 unfold badB
 split
 ·simp [zfh,List.getElem?_eq_getElem h,h0]
 ·split
  ·simp [zco,List.getElem?_eq_getElem h,h0]
  ·simp [zdy,List.getElem?_eq_getElem h,h0]
theorem zg1(L:List Said)(q p:Nat)(c:Int × Int)(hp:p≤L.length)(hz:∀ j,∀ h:j<L.length,j<p→L[j].kind=0):pass L q 0 c=pass L q p c:=by
 induction p with
 | zero=>rfl
 | succ p ih=>rw [ih (by omega) (fun j h h'=>hz j h (by omega)),zsw L q p c (by omega) (hz p (by omega) (by omega))]
theorem zsx(L:List Said)(p:Nat)(hp:p≤L.length)(hz:∀ j,∀ h:j<L.length,j<p→L[j].kind=0):zaP L 0=zaP L p:=by
 induction p with
 | zero=>rfl
 | succ p ih=>rw [ih (by omega) (fun j h h'=>hz j h (by omega)),zbH L p (by omega) (by rw [hz p (by omega) (by omega)];decide)]
theorem zls(L:List Said)(hw:WfAll L)(hn:NmOk L)(i:Nat)(hi:i≤L.length)(hz:∀ j,∀ h:j<L.length,j<i→L[j].kind=0):zb6 L i=sayK (zbd L i):=by
 by_cases h:i<L.length
 ·by_cases h0:L[i].kind=0
  ·rw [zj2 L i h h0,zdh L i h h0]
   refine zls L hw hn (i+1) h (fun j hj h'=>?_)
   by_cases e:j=i
   ·subst e;exact h0
   ·exact hz j hj (by omega)
  ·by_cases h1:L[i].kind=102
   ·rw [zhZ L i h h0 h1]
    have hF:(zbd L i).foldl addK []=zaP L i:=by
     rw [zbq L i h h0,List.foldl_cons,zcw _ _ (zex _ h1),zfU,zbR L i h h1]
     simp [keyQ,zg0 _ h1]
    have hN:∀ x,((zaP L i).map Fn.name).any (fun y=>eqW y x)=decide (0≤zb3 L x 0):=by
     intro x;rw [←zsx L i hi hz];exact znl L 0 x
    have ho:=zfL L i h h1
    have p1:∀ c,pass L 1 0 c=zem 4 (zcA ((zaP L i).map Fn.name) (zaP L i)) c:=by
     intro c
     have hb:badB L 1 i=false:=by simp [badB,zco,List.getElem?_eq_getElem h,h1]
     rw [zg1 L 1 i c hi hz,zc3 L 1 i c h hb,zv1 L hw hn _ hN c i i ho (labsOf (zan L (i+1))) (fun x=>zfV L (i+1) x)]
     conv=>rhs;rw [zbR L i h h1]
     rw [zbR L i h h1]
     rfl
    have p2:∀ c,pass L 2 0 c=zem 5 (endK (zaP L i)) c:=by
     intro c;rw [zg1 L 2 i c hi hz,zxQ L hw i c]
    have I:Inv L i i [] ⟨L[i].word 1,(i:Int)+1,[]⟩:=by
     refine⟨ho,Nat.le_refl _,?_,?_,?_⟩
     ·intro x
      constructor
      ·intro h3;exact⟨i,h,by omega,by simpa [isFn,h1] using h3⟩
      ·rintro⟨j,hj,h2,h3⟩
       by_cases e:j=i
       ·subst e;simpa [isFn,h1] using h3
       ·have:=hz j hj (by omega)
        simp [isFn,this] at h3
     ·intro x
      simp [labsOf]
      intro j hj h2 h3;omega
     ·intro j hj h2 h3;omega
    have p0:∀ c,pass L 0 0 c=zem 3 (zaR [] (zbd L i)) c:=by
     intro c
     have hb:badB L 0 i=false:=by
      have e:badB L 0 i=decide (zb3 L (L[i].word 1) 0<(i:Int)):=by simp [badB,zfh,List.getElem?_eq_getElem h,h1]
      rw [e,Bool.eq_false_iff]
      intro h2
      obtain⟨j,hj,_,h3,h4⟩:=(zik L _ i h (by simp [isFn,h1,eqW]) 0 (Nat.zero_le _)).1 h2
      have:=hz j hj h3
      simp [isFn,this] at h4
     rw [zg1 L 0 i c hi hz,zc3 L 0 i c h hb,zsv L hw c i i [] _ I,zbq L i h h0]
     conv=>rhs;unfold zaR
     rw [zcw _ _ (zex _ h1)]
     simp [bad0,keyQ,zex _ h1,zg0 _ h1]
    have ht:tail L 0=pass L 0 0 (pass L 1 0 (pass L 2 0 (0,0))):=rfl
    rw [ht,p0,p1,p2]
    unfold sayK
    rw [hF]
    conv=>rhs;rw [zbq L i h h0]
    dsimp only
    rw [if_pos (show(keyQ L[i] ((i:Int)+1)).sort=0 from zex _ h1),←zbq L i h h0]
   ·rw [zlc L i h h0 h1,zbq L i h h0]
    unfold sayK
    dsimp only
    rw [if_neg (show ¬(keyQ L[i] ((i:Int)+1)).sort=0 from zf1 _ h1)]
    rfl
 ·rw [zhY L i h,zcV L i h];rfl
termination_by L.length-i
theorem zzX(s:ByteArray)(h:(say s).ok=true)(h5:(say s).kind=105)(ha:zaE ((say s).word 0)=true∨zbt ((say s).word 0)=true):zd5 (say s)=(say s).last:=by
 have hv:za0 s 0=true:=by
  cases hv:za0 s 0 with
  | true=>rfl
  | false=>rw [zfy s hv] at h;cases h
 rw [zie s hv] at h h5 ha ⊢
 generalize zbv s=l at h h5 ha ⊢
 cases l with
 | nil=>simp [sayW] at h5
 | cons x r =>
  have e:sayW (x :: r)=⟨105,x :: r,if zaa x=[63]∨¬(x :: r).length=(zaa x).length+1 then false else za7 (zaa x) r⟩:=by
   unfold sayW at h5 ⊢
   dsimp only at h5 ⊢
   split at h5
   ·simp at h5
   ·rename_i hf
    rw [if_neg hf]
    split at h5
    ·simp at h5
    ·rename_i hg
     rw [if_neg hg]
  rw [e] at h ha ⊢
  have hx:(⟨105,x :: r,if zaa x=[63]∨¬(x :: r).length=(zaa x).length+1 then false else za7 (zaa x) r⟩:Said).word 0=x:=rfl
  rw [hx] at ha
  have hl:(x :: r).length=(zaa x).length+1:=by
   by_cases hc:zaa x=[63]∨¬(x :: r).length=(zaa x).length+1
   ·simp only [if_pos hc] at h;cases h
   ·rcases Classical.em ((x :: r).length=(zaa x).length+1) with h'|h'
    ·exact h'
    ·exact absurd (.inr h') hc
  have hsh:zaa x=[78]∨zaa x=[82,82,78]:=by
   unfold zaE zbt isW at ha
   simp only [Bool.or_eq_true,beq_iff_eq] at ha
   unfold zaa isW
   rcases ha with ((ha|ha)|ha)|ha <;> rw [ha] <;> decide
  unfold zd5 Said.last
  rw [if_neg (show ¬(105:Int)=102 by decide),if_neg (show ¬(105:Int)=108 by decide),hx]
  rcases hsh with hs|hs
  ·rw [hs] at hl ⊢
   match r,hl with
   | [a],_=>rfl
  ·rw [hs] at hl ⊢
   match r,hl with
   | [a,b,c],_=>rfl
theorem zeO(A:List ByteArray)(hok:∀ x∈A,(say x).ok=true):zb6 (A.map say) 0=sayK (zaU A A.length):=by
 rw [zkp A]
 refine zls _ ?_ ?_ 0 (Nat.zero_le _) (fun j h h'=>absurd h' (Nat.not_lt_zero _))
 ·intro q hq
  obtain⟨x,hx,rfl⟩:=List.mem_map.1 hq
  exact zxq x (hok x hx)
 ·intro q hq
  obtain⟨x,hx,rfl⟩:=List.mem_map.1 hq
  exact zzX x (hok x hx)
end
section
open Go.RowKit Sp
attribute [local go_sem ↓] Go.wp_at_zero Go.wp_at_succ
def ItOk(i:It):Prop:=i.nm.size≤1048576∧(i.sort=1→i.word=⟨#[]⟩)
def zv4(w:World)(K:List Key):Ending→World→Prop:=fun e w' =>
 Below w.heap.size w w'∧((∃ l,zaR [] K=some l∧e=zak 3 l) ∨
  (zaR [] K=none∧∃ pm v F,e=.returned (.agg #[v,.map (some pm)])∧PIn w.heap.size w' pm v F∧F.map FnM.fn=K.foldl addK []∧F.length≤K.length∧∀ f∈F,f.its.length≤K.length∧∀ i∈f.its,ItOk i))
theorem PIn.mono{B B':Nat}{w:World}{pm:Nat}{v:Value}{F:List FnM}(h:PIn B w pm v F)(hB:B'≤B):PIn B' w pm v F :=
 ⟨zbV h.row hB,fun f hf=>zbV (h.bodies f hf) hB,h.labels,h.places,fun f hf=>Nat.le_trans hB (h.lowm f hf),Nat.le_trans hB h.lowp,h.pmNot,h.maps,h.rows⟩
theorem zqg(K:List Key)(k:Nat)(h:k<K.length):(K.take (k+1)).foldl addK []=addK ((K.take k).foldl addK []) K[k]:=by
 rw [List.take_succ_eq_append_getElem h,List.foldl_append]
 rfl
theorem zqh(F:List Fn)(K:List Key)(k:Nat)(h:k<K.length):zaR F (K.drop k)=if bad0 F K[k]=true then some K[k].line else zaR (addK F K[k]) (K.drop (k+1)):=by
 rw [List.drop_eq_getElem_cons h]
 rfl
theorem zaZ(w:World)(a:Obj){w1:World}(h:Below (w.alloc a).heap.size (w.alloc a) w1):Below w.heap.size w w1 :=
 ((Below.refl w.heap.size w).alloc (Nat.le_refl _) a).trans (h.mono (by simp))
theorem zlz{B:Nat}{w:World}(a:Obj){w1:World}(hB:B≤w.heap.size)(h:Below B (w.alloc a) w1):Below B w w1 :=
 ((Below.refl B w).alloc hB a).trans h
theorem zxS(F:List FnM)(h:¬F=[]):∃ F0 f,F=F0++[f]:=⟨F.dropLast,F.getLast h,(List.dropLast_concat_getLast h).symm⟩
abbrev W3(w:World):World:=((w.alloc (.cells #[.slice none 0 0,.map none] 83)).alloc (.map #[] 0)).alloc (.cells #[.slice none 0 0,.map (some (w.heap.size+1))] 83)
theorem zl0(w:World)(B0:Nat)(v0:Value)(its:List It)(hown0:w.ownsRow B0 135 8 v0 its.length (zav its))(hn:its.length≤300)(hnm:∀ i∈its,ItOk i)(hpos:0<its.length)(hfirst:Hid (its[0].sort=0)):
  Calls Tryz.prog 68 #[v0] w (zv4 w (its.map It.key)):=by
 obtain⟨g0,cap0,rfl,_,hg0,hcells⟩:=zg2 hown0 hpos
 have hmk:=fun W=>zxr W
 have hb3:Below w.heap.size w (W3 w):=(((Below.refl _ _).alloc (Nat.le_refl _) _).alloc (by simp) _).alloc (by simp;omega) _
 have hz3:(W3 w).heap.size=w.heap.size+3:=by simp [W3]
 have hp3:PAt (w.heap.size+1) (W3 w) (w.heap.size+1+1) (w.heap.size+1) (.slice none 0 0) []:=by
  refine⟨PIn.start _ _ _ ?_ (Nat.le_refl _),?_,by omega⟩
  ·have:=MapIs.made (w.alloc (.cells #[.slice none 0 0,.map none] 83))
   have:=this.alloc (.cells #[.slice none 0 0,.map (some (w.heap.size+1))] 83)
   simpa using this
  ·have:=heap_alloc_new ((w.alloc (.cells #[.slice none 0 0,.map none] 83)).alloc (.map #[] 0)) (.cells #[.slice none 0 0,.map (some (w.heap.size+1))] 83)
   simpa using this
 have hres3:(W3 w).heap[w.heap.size]?=some (.cells #[.slice none 0 0,.map none] 83 (0,0)):=by
  rw [Below.heap_alloc _ _ _ (by simp;omega),Below.heap_alloc _ _ _ (by simp)]
  exact heap_alloc_new w _
 go_enter Tryz.func68,Tryz.ntmps68
 go_wp2
 change Code.wp _ _ _ _ (W3 w)
 generalize W3 w=W at hb3 hz3 hp3 hres3
 clear hmk
 go_loopw [10] (fun ti wr=>∃(k:Nat) (v:Value) (F:List FnM),k≤its.length∧ti=.int .i64 (k:Int)∧PAt (w.heap.size+1) wr (w.heap.size+1+1) (w.heap.size+1) v F∧F.map FnM.fn=((its.map It.key).take k).foldl addK []∧Below (w.heap.size+1) W wr∧F.length≤k∧(∀ f∈F,f.its.length≤k)∧zaR [] (its.map It.key)=zaR (F.map FnM.fn) ((its.map It.key).drop k)∧(0<k→¬F=[])∧(∀ f∈F,∀ i∈f.its,ItOk i)) (fun ti _=>its.length-(intOf ti).toNat)
 case atStart=>exact⟨0,_,[],by omega,rfl,hp3,rfl,Below.refl _ _,by simp,by simp,rfl,by simp,by simp⟩
 case round =>
  obtain⟨k,v,F,hk,rfl,hpat,hF,hnx,hFl,hFi,hT,hF0,hFn⟩:=hrel
  have HF:Hid (F.map FnM.fn=((its.map It.key).take k).foldl addK []):=hF
  have HT:Hid (zaR [] (its.map It.key)=zaR (F.map FnM.fn) ((its.map It.key).drop k)):=hT
  clear hF hT
  have hszr:=hnx.size
  have hbw:Below w.heap.size w wr:=hb3.trans (hnx.mono (by omega))
  by_cases hlt:k<its.length
  ·have hck:=hcells k hlt
   have hnk:=hnm its[k] (List.getElem_mem hlt)
   have hltK:k<(its.map It.key).length:=by simpa using hlt
   have HTD:Hid (zaR [] (its.map It.key)=if bad0 (F.map FnM.fn) its[k].key=true then some its[k].key.line else zaR (addK (F.map FnM.fn) its[k].key) ((its.map It.key).drop (k+1))):=by
    unfold Hid;rw [HT.out,zqh _ _ k hltK];simp
   have HFD:Hid (((its.map It.key).take (k+1)).foldl addK []=addK (F.map FnM.fn) its[k].key):=by
    unfold Hid;rw [zqg _ k hltK,←HF.out];simp
   have H0:Hid (¬its[k].sort=0→¬F=[]):=fun h=>hF0 (by
    rcases Nat.eq_zero_or_pos k with e|e
    ·subst e;exact absurd hfirst.out h
    ·exact e)
   generalize its[k]=i at hck hnk HTD HFD H0
   obtain⟨c0,c1,c2,c3,c4,c5,c6,c7⟩:=hck
   have z:∀ j,wr.cell? ⟨g0,j,none⟩=w.cell? ⟨g0,j,none⟩:=fun j=>hbw.cell (p:=⟨g0,j,none⟩) hg0
   rw [←z] at c0 c1 c2 c3 c4 c5 c6 c7
   have hk8:k*8≤2400:=by omega
   clear z hF0
   by_cases hs:i.sort=0
   ·cases hbad:bad0 (F.map FnM.fn) i.key with
    | true =>
     have HX:Hid (zaR [] (its.map It.key)=some i.line):=by unfold Hid;rw [HTD.out,hbad];rfl
     have hcall:=zv2 (hpat.alloc (.cells #[.int .i64 i.sort,.int .i64 i.line,.string i.word,.int .i64 i.a,.int .i64 i.b,.int .i64 i.c,.int .i64 i.n,.string i.nm] 135)) i hs hbad (by omega) hnk.1
     rw [hs] at hcall c0
     clear hbad hs
     go_wp2_with(go_at_call 100;refine hcall.mono ?_;rintro e w2 ⟨rfl,hb2⟩)
     exact⟨rfl,hbw.trans ((zaZ _ _ hb2).mono (by omega)),.inl ⟨_,HX.out,rfl⟩⟩
    | false =>
     have HX:Hid (zaR [] (its.map It.key)=zaR (addK (F.map FnM.fn) i.key) ((its.map It.key).drop (k+1))):=by unfold Hid;rw [HTD.out,hbad];rfl
     have hcall:=zv3 (hpat.alloc (.cells #[.int .i64 i.sort,.int .i64 i.line,.string i.word,.int .i64 i.a,.int .i64 i.b,.int .i64 i.c,.int .i64 i.n,.string i.nm] 135)) i hs hbad (by omega) hnk.1 (by simp;omega)
     have HS:Hid (i.sort=0):=hs
     rw [hs] at hcall c0
     clear hbad hs
     go_wp2_with(go_at_call 100;refine hcall.mono ?_;rintro e w2 ⟨rfl,v2,F2,hpat2,hF2,hl2,hi2,hb2⟩)
     have hb12:=hnx.trans (zlz _ (by omega) hb2)
     clear hb2 hcall
     go_roundw
     case rel =>
      refine⟨k+1,v2,F2,by omega,by go_num,hpat2,by rw [HFD.out];exact hF2,hb12,by omega,?_,by rw [hF2];exact HX.out,?_,?_⟩
      ·intro f hf
       rcases hi2 f hf with e|⟨f0,hf0,e⟩
       ·rw [e];simp
       ·rw [←e];have:=hFi f0 hf0;omega
      ·rintro _ rfl
       have:=HFD.out
       have h3:=hF2
       rw [zcw _ _ HS.out] at h3
       simp at h3
      ·intro f hf
       rcases hi2 f hf with e|⟨f0,hf0,e⟩
       ·rw [e];simp
       ·rw [←e];exact hFn f0 hf0
     case measure=>simp [intOf];omega
   ·obtain⟨F0,f,rfl⟩:=zxS F (H0.out hs)
    ·obtain⟨fg,cap,rfl,_,_,_,_,_,hcap⟩:=hpat.pin.last
     have hfi:=hFi f (by simp)
     have hfl:F0.length+1≤300:=by simp at hFl;omega
     have hpc:=(hpat.alloc (.cells #[.int .i64 i.sort,.int .i64 i.line,.string i.word,.int .i64 i.a,.int .i64 i.b,.int .i64 i.c,.int .i64 i.n,.string i.nm] 135)).cells.1
     have hs':(i.sort == 0)=false:=by simpa using hs
     have hf4:(0:Int)≤(F0.length:Int):=by omega
     have hne1:¬wr.heap.size=w.heap.size+1+1:=by omega
     have hne2:¬w.heap.size+1+1=wr.heap.size:=by omega
     have hwrap:IntKind.i64.wrap (F0.length:Int)=(F0.length:Int):=zdD _ (by omega) (by omega)
     have hf5:(F0.length:Int)<(F0.length:Int)+1:=by omega
     cases hbad:bad0 ((F0++[f]).map FnM.fn) i.key with
     | true =>
      have HX:Hid (zaR [] (its.map It.key)=some i.line):=by unfold Hid;rw [HTD.out,hbad];rfl
      have hcall:=zzw (hpat.alloc (.cells #[.int .i64 i.sort,.int .i64 i.line,.string i.word,.int .i64 i.a,.int .i64 i.b,.int .i64 i.c,.int .i64 i.n,.string i.nm] 135)).drew i hs hbad (by omega) hnk.1 fg cap rfl
      clear hbad hs
      go_wp2_with fail
      go_region_dies
      all_goals(go_at_call 101;refine hcall.mono ?_;rintro e w2 ⟨rfl,hb2⟩)
      all_goals exact⟨rfl,hbw.trans ((znf _ _ hb2).mono (by omega)),.inl ⟨_,HX.out,rfl⟩⟩
     | false =>
      have HX:Hid (zaR [] (its.map It.key)=zaR (addK ((F0++[f]).map FnM.fn) i.key) ((its.map It.key).drop (k+1))):=by unfold Hid;rw [HTD.out,hbad];rfl
      have hcall:=zzx (hpat.alloc (.cells #[.int .i64 i.sort,.int .i64 i.line,.string i.word,.int .i64 i.a,.int .i64 i.b,.int .i64 i.c,.int .i64 i.n,.string i.nm] 135)).drew i hs hbad (by omega) hnk.1 (by show w.heap.size+1≤(wr.alloc _).heap.size;simp;omega) fg cap rfl
      clear hbad hs
      go_wp2_with fail
      go_region_with(go_at_call 101;refine hcall.mono ?_;rintro e w2 ⟨rfl,f2,hpat2,hF2,hl2,hb2⟩)
      all_goals(
       have hb12:=hnx.trans (zlz _ (by omega) ((((Below.refl (w.heap.size+1) _).drew)).trans hb2))
       clear hb2 hcall
       go_wp2
       go_roundw
       case rel =>
        refine⟨k+1,_,F0++[f2],by omega,by go_num,hpat2,by rw [HFD.out];exact hF2,hb12,by simp at hFl ⊢;omega,?_,by rw [hF2];exact HX.out,by simp,?_⟩
        ·intro f' hf'
         rw [List.mem_append] at hf'
         rcases hf' with hf'|hf'
         ·have:=hFi f' (by simp [hf']);omega
         ·simp at hf';subst hf';rw [hl2];simp;omega
        ·intro f' hf' j hj
         rw [List.mem_append] at hf'
         rcases hf' with hf'|hf'
         ·exact hFn f' (by simp [hf']) j hj
         ·simp at hf';subst hf';rw [hl2,List.mem_append] at hj
          rcases hj with hj|hj
          ·exact hFn f (by simp) j hj
          ·simp at hj;subst hj;exact hnk
       case measure=>simp [intOf];omega)
  ·have HE:Hid (k=its.length):=by unfold Hid;omega
   obtain⟨ao,capv,rfl⟩:=zbb hpat.pin.row
   obtain⟨y0,y1,_⟩:=hpat.cells
   have hres:wr.heap[w.heap.size]?=some (.cells #[.slice none 0 0,.map none] 83 (0,0)):=(hnx.block _ (by omega)).trans hres3
   have r0:wr.cell? ⟨w.heap.size,0,none⟩=some (.slice none 0 0):=by rw [cell_of_row wr _ 0 _ _ _ hres];rfl
   have r1:wr.cell? ⟨w.heap.size,1,none⟩=some (.map none):=by rw [cell_of_row wr _ 1 _ _ _ hres];rfl
   have f0:wr.frozen? ⟨w.heap.size,0,none⟩=false:=frozen_of_row wr _ 0 _ _ hres
   have f1:wr.frozen? ⟨w.heap.size,1,none⟩=false:=frozen_of_row wr _ 1 _ _ hres
   clear hres
   go_wp2
   have q0:=World.cell?_setCell_same (wr.setCell ⟨w.heap.size,0,none⟩ (.slice ao F.length capv)) ⟨w.heap.size,1,none⟩ (.map (some (w.heap.size+1))) (u:=.map none) (by rw [World.cell?_setCell_other];exact r1;simp)
   have q1:((wr.setCell ⟨w.heap.size,0,none⟩ (.slice ao F.length capv)).setCell ⟨w.heap.size,1,none⟩ (.map (some (w.heap.size+1)))).cell? ⟨w.heap.size,0,none⟩=some (.slice ao F.length capv):=by
    rw [World.cell?_setCell_other]
    ·exact World.cell?_setCell_same wr _ _ r0
    ·simp
   have hb2:Below w.heap.size w ((wr.setCell ⟨w.heap.size,0,none⟩ (.slice ao F.length capv)).setCell ⟨w.heap.size,1,none⟩ (.map (some (w.heap.size+1)))):=(hbw.setCell (p:=⟨w.heap.size,0,none⟩) (Nat.le_refl _) _).setCell (p:=⟨w.heap.size,1,none⟩) (Nat.le_refl _) _
   have hpin2:=hpat.pin.of_blocks (w':=((wr.setCell ⟨w.heap.size,0,none⟩ (.slice ao F.length capv)).setCell ⟨w.heap.size,1,none⟩ (.map (some (w.heap.size+1))))) (fun b hb _=>by rw [Below.heap_setCell _ _ _ _ (by show ¬b=w.heap.size;omega),Below.heap_setCell _ _ _ _ (by show ¬b=w.heap.size;omega)])
   refine bodyPost_ret (v:=.agg #[.slice ao F.length capv,.map (some (w.heap.size+1))]) (by simp [results,Tryz.results68,go_sem,q0,q1]) rfl ⟨hb2,.inr ⟨?_,_,_,F,rfl,hpin2.mono (Nat.le_succ _),?_,?_,?_⟩⟩
   ·rw [HT.out,HE.out,List.drop_of_length_le (by simp)];rfl
   ·rw [HF.out,HE.out,List.take_of_length_le (by simp)]
   ·have:=HE.out;simp;omega
   ·intro f hf
    refine⟨?_,hFn f hf⟩
    have:=hFi f hf;simp;omega
end
end Go.Proofs.YtfpgjkbjbbgciaaGreatDoor
