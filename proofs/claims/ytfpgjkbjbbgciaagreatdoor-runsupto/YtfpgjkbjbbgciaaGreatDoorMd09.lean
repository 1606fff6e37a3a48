import Derived.Test.YtfpgjkbjbbgciaaGreatDoorMd04
import Derived.Test.YtfpgjkbjbbgciaaGreatDoorMd06
import Derived.Defers
import Derived.Recover
import Derived.Lib.AtoiErrMem
import Derived.Lib.SplitLaws
set_option maxRecDepth 100000
set_option maxHeartbeats 8000000
namespace Go.Proofs.YtfpgjkbjbbgciaaGreatDoor.Sp
def zcF(L:List Said)(k:Nat):Bool :=
 match L[k]? with
 | none=>false
 | some q=>if q.kind=102 then decide (zaJ L (q.word 1) 0<k) else if q.kind=108 then decide (zbZ L k (q.word 0)<k) else false
def Said.last(q:Said):ByteArray:=q.word (q.kept.length-1)
def zaF(x:ByteArray):Bool:=isW x [106,117,109,112]||isW x [108,101,115,115]||isW x [115,97,109,101]
def zcs(x:ByteArray):Bool:=isW x [99,97,108,108]
def zaG(L:List Said)(k:Nat):Bool :=
 match L[k]? with
 | none=>false
 | some q=>if q.kind=105 then(if zaF (q.word 0)=true then decide (zbZ L k q.last<0) else if zcs (q.word 0)=true then decide (zaJ L q.last 0<0) else false) else false
def ends(x:ByteArray):Bool:=isW x [106,117,109,112]||isW x [98,97,99,107]||isW x [115,116,111,112]
def zdW(L:List Said)(i:Nat)(e:Bool):Bool :=
 if h:i<L.length then
  if L[i].kind=102 then e
  else zdW L (i+1) (if L[i].kind=108 then false else if L[i].kind=105 then ends (L[i].word 0) else e)
 else e
termination_by L.length-i
def zbm(L:List Said)(k:Nat):Bool :=
 match L[k]? with
 | none=>false
 | some q=>if q.kind=102 then !zdW L (k+1) false else false
theorem zhw(L:List Said)(i:Nat)(e:Bool)(h:¬i<L.length):zdW L i e=e:=by rw [zdW,dif_neg h]
theorem zm3(L:List Said)(i:Nat)(e:Bool)(h:i<L.length)(h':L[i].kind=102):zdW L i e=e:=by rw [zdW,dif_pos h,if_pos h']
theorem zd4(L:List Said)(i:Nat)(e:Bool)(h:i<L.length)(h':¬L[i].kind=102):zdW L i e=zdW L (i+1) (if L[i].kind=108 then false else if L[i].kind=105 then ends (L[i].word 0) else e):=by
 conv=>lhs;rw [zdW,dif_pos h,if_neg h']
end Go.Proofs.YtfpgjkbjbbgciaaGreatDoor.Sp
namespace Go.Proofs.YtfpgjkbjbbgciaaGreatDoor
open Go.RowKit Sp
def zdv(s:ByteArray)(R:Int × Int):Prop:=∀ w,LibW w→Calls Tryz.prog 44 #[.string s] w fun e w' =>
 Below w.heap.size w w'∧(R=(0,0)∧(∃ v,e=.returned v)∨¬R=(0,0)∧e=zaj R.1 R.2)
def SlB(w:World)(b:Nat)(v:Value)(l:List Int):Prop:=∃ ao cap,v=.slice ao l.length cap∧l.length≤cap∧(0<l.length→∃ g o,ao=some ⟨g,o,none⟩∧g<b∧g<w.heap.size∧∀ j (h:j<l.length),w.cell? ⟨g,o+j,none⟩=some (.int .i64 l[j]))
theorem SlB.below{w w':World}{b:Nat}{v:Value}{l:List Int}(h:SlB w b v l)(hb:Below b w w'):SlB w' b v l:=by
 obtain⟨ao,cap,h1,h2,h3⟩:=h
 refine⟨ao,cap,h1,h2,fun hp=>?_⟩
 obtain⟨g,o,e,hg,hg2,hc⟩:=h3 hp
 exact⟨g,o,e,hg,Nat.lt_of_lt_of_le hg2 hb.size,fun j hj=>(hb.cell (p:=⟨g,o+j,none⟩) hg).trans (hc j hj)⟩
end Go.Proofs.YtfpgjkbjbbgciaaGreatDoor
namespace Go.Proofs.YtfpgjkbjbbgciaaGreatDoor.Sp
def pre(p:List UInt8):List (List UInt8)→List (List UInt8)
 | h :: t=>(p++h) :: t
 | []=>[p]
def zdL:List UInt8→List (List UInt8)
 | []=>[[]]
 | c :: r=>if c=10 then [] :: zdL r else pre [c] (zdL r)
theorem zrU(l:List (List UInt8))(h:l≠[]):pre [] l=l:=by
 cases l with
 | nil=>exact absurd rfl h
 | cons a b=>rfl
theorem zkG(l:List UInt8):zdL l≠[]:=by
 cases l with
 | nil=>simp [zdL]
 | cons c r =>
  unfold zdL
  split
  ·simp
  ·cases zdL r <;> simp [pre]
theorem zwD(p q:List UInt8)(l:List (List UInt8)):pre p (pre q l)=pre (p++q) l:=by
 cases l <;> simp [pre]
theorem zm8(s:ByteArray)(f i:Nat)(hf:f≤i)(hi:i≤s.size):(zbY s f i).map (·.data.toList)=pre ((s.data.toList.drop f).take (i-f)) (zdL (s.data.toList.drop i)):=by
 by_cases h:i<s.size
 ·obtain⟨c,r,h1,h2,h3⟩:=zjE s i h
  by_cases h10:bt s i=10
  ·rw [zdS s f i h h10,List.map_cons,zm8 s (i+1) (i+1) (by omega) (by omega),h1,←h3]
   have hc:c=10:=by
    apply UInt8.toNat_inj.1
    have:(c.toNat:Int)=10:=by omega
    simp;omega
   subst hc
   simp only [Nat.sub_self,List.take_zero]
   rw [zrU _ (zkG _)]
   simp [zdL,pre]
  ·rw [zeJ s f i h h10,zm8 s f (i+1) (by omega) (by omega),h1,←h3]
   have hc:¬c=10:=by
    intro e;apply h10;rw [←h2,e];rfl
   simp only [zdL,hc,if_false]
   rw [zwD]
   congr 1
   have e:i+1-f=(i-f)+1:=by omega
   rw [e,List.take_add_one]
   congr 1
   rw [List.getElem?_drop]
   have e2:f+(i-f)=i:=by omega
   rw [e2]
   have h5:s.data.toList[i]?=some c:=by
    have:(s.data.toList.drop i)[0]?=some c:=by rw [h1];rfl
    rw [List.getElem?_drop] at this
    simpa using this
   rw [h5];rfl
 ·have hz:i=s.size:=by omega
  rw [zdR s f i h]
  have hl:s.data.toList.drop i=[]:=List.drop_of_length_le (by simp;omega)
  rw [hl]
  simp [zdL,pre,hz]
termination_by s.size-i
theorem zwE(l:List UInt8):Lib.splitK [10] 0 (Lib.count l [10]) l=zdL l:=by
 induction l with
 | nil=>rw [Lib.count_miss (by simp [Lib.index])];rfl
 | cons c r ih =>
  by_cases hc:c=10
  ·subst hc
   rw [Lib.count_cons_eq,Nat.add_comm]
   have hix:Lib.index (10 :: r) [10]=0:=by rw [Lib.index];simp [List.isPrefixOf]
   unfold Lib.splitK
   rw [hix]
   simp only [zdL,if_true]
   rw [←ih]
   simp
  ·rw [Lib.count_cons_ne c 10 r hc]
   have hp:([10]:List UInt8).isPrefixOf (c :: r)=false:=by simp [List.isPrefixOf,Ne.symm hc]
   have hix:Lib.index (c :: r) [10]=if Lib.index r [10] == -1 then -1 else Lib.index r [10]+1:=by rw [Lib.index,hp];simp
   simp only [zdL,hc,if_false]
   rw [←ih]
   by_cases hm:Lib.index r [10]=-1
   ·rw [Lib.count_miss hm];rfl
   ·have hge:=Lib.index_ge r [10]
    obtain⟨j,hj⟩:∃ j:Nat,Lib.index r [10]=j:=⟨(Lib.index r [10]).toNat,by omega⟩
    rw [Lib.count_hit (by simp) hj,Nat.add_comm]
    unfold Lib.splitK
    rw [hix,hj]
    have b1:(((j:Nat):Int) == -1)=false:=by simp
    have b2:(((j:Nat):Int)+1 == -1)=false:=by simp;omega
    simp only [b1,b2,if_false,Bool.false_eq_true]
    have e1:((j:Int)+1).toNat=j+1:=by omega
    have e2:((j:Nat):Int).toNat=j:=by omega
    rw [e1,e2]
    simp [pre]
theorem zh9(s:ByteArray):Lib.splitB ⟨#[10]⟩ 0 (Lib.countB s ⟨#[10]⟩) s=lines s:=by
 have h1:(Lib.splitB ⟨#[10]⟩ 0 (Lib.countB s ⟨#[10]⟩) s).map (·.data.toList)=(lines s).map (·.data.toList):=by
  rw [Lib.splitB_data]
  have h2:=zm8 s 0 0 (by omega) (by omega)
  simp only [List.drop_zero,Nat.sub_self,List.take_zero] at h2
  rw [zrU _ (zkG _)] at h2
  show Lib.splitK [10] 0 (Lib.count s.data.toList [10]) s.data.toList=(zbY s 0 0).map _
  rw [h2,zwE]
 refine(List.map_inj_right ?_).1 h1
 intro a b h
 exact ByteArray.ext (Array.ext' h)
theorem zfr(s:ByteArray):(lines s).length=Lib.countByte s.data.toList 10+1∧Lib.countB s ⟨#[10]⟩+1=(lines s).length:=by
 have h:=Lib.splitB_all ⟨#[10]⟩ (by decide) 0 _ s rfl
 rw [zh9] at h
 refine⟨?_,h.symm⟩
 rw [h]
 unfold Lib.countByte
 rw [←Lib.count_one]
def badB(L:List Said)(q k:Nat):Bool:=if q=0 then zcF L k else if q=1 then zaG L k else zbm L k
def pass(L:List Said)(q j:Nat)(c:Int × Int):Int × Int :=
 if j<L.length then(if badB L q j=true then(3+(q:Int),(j:Int)+1) else pass L q (j+1) c) else c
termination_by L.length-j
theorem zd5(L:List Said)(q j:Nat)(c:Int × Int)(h:¬j<L.length):pass L q j c=c:=by rw [pass,if_neg h]
theorem zdp(L:List Said)(q j:Nat)(c:Int × Int)(h:j<L.length)(h':badB L q j=true):pass L q j c=(3+(q:Int),(j:Int)+1):=by rw [pass,if_pos h,if_pos h']
theorem zcg(L:List Said)(q j:Nat)(c:Int × Int)(h:j<L.length)(h':badB L q j=false):pass L q j c=pass L q (j+1) c:=by rw [pass,if_pos h,if_neg (by simp [h'])]
def tail(L:List Said)(q:Nat):Int × Int:=if q=0 then pass L 0 0 (pass L 1 0 (pass L 2 0 (0,0))) else if q=1 then pass L 1 0 (pass L 2 0 (0,0)) else if q=2 then pass L 2 0 (0,0) else(0,0)
theorem zh0(L:List Said)(q:Nat)(h:q<3):tail L q=pass L q 0 (tail L (q+1)):=by
 match q,h with
 | 0,_=>rfl
 | 1,_=>rfl
 | 2,_=>rfl
def zbn(L:List Said)(i:Nat):Int × Int :=
 if h:i<L.length then(if L[i].kind=0 then zbn L (i+1) else if L[i].kind=102 then tail L 0 else(2,(i:Int)+1)) else(2,0)
termination_by L.length-i
theorem zdX(L:List Said)(i:Nat)(h:¬i<L.length):zbn L i=(2,0):=by rw [zbn,dif_neg h]
theorem zeO(L:List Said)(i:Nat)(h:i<L.length)(h':L[i].kind=0):zbn L i=zbn L (i+1):=by rw [zbn,dif_pos h,if_pos h']
theorem zfE(L:List Said)(i:Nat)(h:i<L.length)(h':¬L[i].kind=0)(h2:L[i].kind=102):zbn L i=tail L 0:=by rw [zbn,dif_pos h,if_neg h',if_pos h2]
theorem zfF(L:List Said)(i:Nat)(h:i<L.length)(h':¬L[i].kind=0)(h2:¬L[i].kind=102):zbn L i=(2,(i:Int)+1):=by rw [zbn,dif_pos h,if_neg h',if_neg h2]
def zbG(A:List ByteArray)(i:Nat):Int × Int :=
 if h:i<A.length then(if(say A[i]).ok=true then zbG A (i+1) else(1,(i:Int)+1)) else zbn (A.map say) 0
termination_by A.length-i
theorem zfG(A:List ByteArray)(i:Nat)(h:¬i<A.length):zbG A i=zbn (A.map say) 0:=by rw [zbG,dif_neg h]
theorem zeP(A:List ByteArray)(i:Nat)(h:i<A.length)(h':(say A[i]).ok=true):zbG A i=zbG A (i+1):=by rw [zbG,dif_pos h,if_pos h']
theorem zdI(A:List ByteArray)(i:Nat)(h:i<A.length)(h':(say A[i]).ok=false):zbG A i=(1,(i:Int)+1):=by rw [zbG,dif_pos h,if_neg (by simp [h'])]
def zbw(s:ByteArray):Int × Int:=if 4000<s.size∨300<(lines s).length then(6,0) else zbG (lines s) 0
theorem zfo(s:ByteArray)(f i:Nat):1≤(zbY s f i).length∧(zbY s f i).length≤s.size-i+1:=by
 by_cases h:i<s.size
 ·by_cases h':bt s i=10
  ·rw [zdS s f i h h']
   have:=zfo s (i+1) (i+1)
   simp;omega
  ·rw [zeJ s f i h h']
   have:=zfo s f (i+1)
   omega
 ·rw [zdR s f i h];simp
termination_by s.size-i
theorem zfH(s:ByteArray):1≤(lines s).length∧(lines s).length≤s.size+1:=zfo s 0 0
theorem zdY(s:ByteArray)(f i:Nat):∀ x∈zbY s f i,x.size≤s.size:=by
 by_cases h:i<s.size
 ·by_cases h':bt s i=10
  ·rw [zdS s f i h h']
   intro x hx
   rw [List.mem_cons] at hx
   rcases hx with rfl|hx
   ·rw [ByteArray.size_extract];omega
   ·exact zdY s (i+1) (i+1) x hx
  ·rw [zeJ s f i h h']
   exact zdY s f (i+1)
 ·rw [zdR s f i h]
  intro x hx
  simp at hx;subst hx
  rw [ByteArray.size_extract];omega
termination_by s.size-i
theorem zdZ(s:ByteArray):∀ x∈lines s,x.size≤s.size:=zdY s 0 0
theorem zrC(s:ByteArray)(h:(say s).ok=true):Wf (say s):=by
 unfold say at h ⊢
 split at h
 ·rename_i hv
  rw [if_pos hv]
  generalize words s=l at h ⊢
  unfold sayW at h ⊢
  split at h
  ·exact .inl ⟨rfl,rfl⟩
  ·rename_i x r
   by_cases hf:zk0 x=true
   ·rw [if_pos hf] at h ⊢
    simp only [Bool.and_eq_true,decide_eq_true_eq] at h
    exact .inr (.inl ⟨rfl,h.1⟩)
   ·rw [if_neg hf] at h ⊢
    by_cases hl:(x :: r).length=1∧zfA x=58
    ·rw [if_pos hl] at h ⊢
     exact .inr (.inr (.inl ⟨rfl,rfl⟩))
    ·rw [if_neg hl] at h ⊢
     simp only at h
     split at h
     ·cases h
     ·rename_i hs
      refine .inr (.inr (.inr ⟨rfl,by simp,?_⟩))
      have h3:(zaa x).length≤3:=by
       unfold zaa
       repeat' split
       all_goals decide
      have h4:(x :: r).length=(zaa x).length+1:=by
       rcases Classical.em ((x :: r).length=(zaa x).length+1) with h|h
       ·exact h
       ·exact absurd (.inr h) hs
      show(x :: r).length≤4
      omega
 ·cases h
end Go.Proofs.YtfpgjkbjbbgciaaGreatDoor.Sp
namespace Go.Proofs.YtfpgjkbjbbgciaaGreatDoor
def HpAll(f:Nat→Int)(n:Nat):Prop:=∀ i,0<i→i<n→f ((i-1)/2)≤f i
structure RiseI(f:Nat→Int)(n a:Nat):Prop where
 all:∀ i,0<i→i<n→¬i=a→f ((i-1)/2)≤f i
 over:∀ i,0<i→i<n→(i-1)/2=a→0<a→f ((a-1)/2)≤f i
structure SinkI(f:Nat→Int)(n a:Nat):Prop where
 all:∀ i,0<i→i<n→¬(i-1)/2=a→f ((i-1)/2)≤f i
 over:∀ i,0<i→i<n→(i-1)/2=a→0<a→f ((a-1)/2)≤f i
def znq(f:Nat→Int)(a b:Nat):Nat→Int:=fun i=>if i=a then f b else if i=b then f a else f i
theorem HpAll.least{f:Nat→Int}{n:Nat}(h:HpAll f n):∀ i,i<n→f 0≤f i:=by
 intro i
 induction i using Nat.strongRecOn with
 | ind i ih =>
  intro hi
  by_cases h0:i=0
  ·subst h0;exact Int.le_refl _
  ·have h1:=ih ((i-1)/2) (by omega) (by omega)
   have h2:=h i (by omega) hi
   omega
theorem RiseI.done{f:Nat→Int}{n a:Nat}(h:RiseI f n a)(h0:a=0∨f ((a-1)/2)≤f a):HpAll f n:=by
 intro i hi hn
 by_cases e:i=a
 ·subst e
  rcases h0 with h0|h0
  ·omega
  ·exact h0
 ·exact h.all i hi hn e
theorem RiseI.step{f:Nat→Int}{n a:Nat}(h:RiseI f n a)(ha:0<a)(han:a<n)(hle:f a≤f ((a-1)/2)):RiseI (znq f a ((a-1)/2)) n ((a-1)/2):=by
 have key:∀ x,znq f a ((a-1)/2) x=if x=a then f ((a-1)/2) else if x=(a-1)/2 then f a else f x:=fun x=>rfl
 constructor
 ·intro i hi hn hne
  rw [key,key]
  by_cases e1:i=a
  ·subst e1
   rw [if_neg (by omega),if_pos rfl,if_pos rfl]
   exact hle
  ·rw [if_neg e1,if_neg hne]
   by_cases e2:(i-1)/2=a
   ·rw [if_pos e2];exact h.over i hi hn e2 ha
   ·rw [if_neg e2]
    have h1:=h.all i hi hn e1
    by_cases e3:(i-1)/2=(a-1)/2
    ·rw [if_pos e3];rw [e3] at h1;omega
    ·rw [if_neg e3];exact h1
 ·intro i hi hn e ha2
  rw [key,key,if_neg (by omega),if_neg (by omega)]
  have h2:=h.all ((a-1)/2) ha2 (by omega) (by omega)
  by_cases e1:i=a
  ·rw [if_pos e1];exact h2
  ·rw [if_neg e1,if_neg (by omega)]
   have h1:=h.all i hi hn e1
   rw [e] at h1
   omega
theorem SinkI.done{f:Nat→Int}{n a:Nat}(h:SinkI f n a)(h1:2*a+1<n→f a≤f (2*a+1))(h2:2*a+2<n→f a≤f (2*a+2)):HpAll f n:=by
 intro i hi hn
 by_cases e:(i-1)/2=a
 ·rcases(by omega:i=2*a+1∨i=2*a+2) with rfl|rfl
  ·rw [e];exact h1 hn
  ·rw [e];exact h2 hn
 ·exact h.all i hi hn e
theorem SinkI.step{f:Nat→Int}{n a c:Nat}(h:SinkI f n a)(hc:c=2*a+1∨c=2*a+2)(hcn:c<n)(h0:f c≤f a)(h1:2*a+1<n→f c≤f (2*a+1))(h2:2*a+2<n→f c≤f (2*a+2)):SinkI (znq f a c) n c:=by
 have key:∀ x,znq f a c x=if x=a then f c else if x=c then f a else f x:=fun x=>rfl
 constructor
 ·intro i hi hn hne
  rw [key,key]
  by_cases e1:i=c
  ·subst e1
   rw [if_pos (by omega),if_neg (by omega),if_pos rfl]
   exact h0
  ·by_cases e2:i=a
   ·subst e2
    rw [if_neg (by omega),if_neg (by omega),if_pos rfl]
    exact h.over c (by omega) hcn (by omega) hi
   ·rw [if_neg e2,if_neg e1,if_neg hne]
    by_cases e3:(i-1)/2=a
    ·rw [if_pos e3]
     rcases(by omega:i=2*a+1∨i=2*a+2) with rfl|rfl
     ·exact h1 hn
     ·exact h2 hn
    ·rw [if_neg e3];exact h.all i hi hn e3
 ·intro i hi hn e hc2
  rw [key,key,if_pos (by omega),if_neg (by omega),if_neg (by omega)]
  have h3:=h.all i hi hn (by omega)
  rw [e] at h3
  exact h3
theorem SinkI.head{f g:Nat→Int}{n m:Nat}(h:HpAll f n)(hm:m≤n)(e:∀ i,0<i→i<m→g i=f i):SinkI g m 0 :=
 ⟨fun i hi hn hne=>by rw [e i hi hn,e _ (by omega) (by omega)];exact h i hi (by omega),fun i hi hn _ h0=>absurd h0 (by omega)⟩
theorem RiseI.last{f g:Nat→Int}{n:Nat}(h:HpAll f n)(e:∀ i,i<n→g i=f i):RiseI g (n+1) n :=
 ⟨fun i hi hn hne=>by rw [e i (by omega),e _ (by omega)];exact h i hi (by omega),fun i hi hn e2=>by omega⟩
def zek{α:Type}(d:α)(l:List α)(i j:Nat):List α:=(l.set i (l.getD j d)).set j (l.getD i d)
theorem ztp{α:Type}(d:α)(l:List α)(i j:Nat):(zek d l i j).length=l.length:=by simp [zek]
theorem zg5{α:Type}{d:α}{l:List α}{i j:Nat}(hi:i<l.length)(hj:j<l.length):(zek d l i j).Perm l:=by
 have e1:l.getD j d=l[j]:=by simp [List.getD,hj]
 have e2:l.getD i d=l[i]:=by simp [List.getD,hi]
 unfold zek
 rw [e1,e2]
 exact List.set_set_perm hi hj
theorem zoK{α:Type}{d:α}{l:List α}{i j:Nat}(hi:i<l.length)(hj:j<l.length)(hne:¬i=j)(x:Nat):(zek d l i j).getD x d=if x=i then l.getD j d else if x=j then l.getD i d else l.getD x d:=by
 unfold zek
 simp only [List.getD,List.getElem?_set]
 by_cases e1:j=x
 ·subst e1
  have hne':¬j=i:=fun h=>hne h.symm
  simp [hne',hj]
 ·have e1':¬x=j:=fun h=>e1 h.symm
  by_cases e2:i=x
  ·subst e2;simp [e1,hi]
  ·have e2':¬x=i:=fun h=>e2 h.symm
   simp [e1,e2,e1',e2']
theorem ztq{α:Type}{d:α}{l:List α}{i j:Nat}(hi:i<l.length)(hj:j<l.length)(hne:¬i=j)(st:α→Int):(fun x=>st ((zek d l i j).getD x d))=znq (fun x=>st (l.getD x d)) i j:=by
 funext x
 show st ((zek d l i j).getD x d)=if x=i then st (l.getD j d) else if x=j then st (l.getD i d) else st (l.getD x d)
 rw [zoK hi hj hne]
 split
 ·rfl
 ·split <;> rfl
end Go.Proofs.YtfpgjkbjbbgciaaGreatDoor
namespace Go.Proofs.YtfpgjkbjbbgciaaGreatDoor
open Go.RowKit Sp
theorem zeM(x:ByteArray)(w:World)(sh:List UInt8)(HS:Hid (zaa x=sh)):
  Calls Tryz.prog 74 #[.string x] w fun e w'=>e=.returned (.string ⟨sh.toArray⟩)∧w'=w:=by
 rw [←HS.out];exact zrz x w
theorem zxM(a b:Nat)(h:¬a=b):((a:Int)+1 != (b:Int)+1)=true:=by simp;omega
theorem zr2(s:ByteArray)(w:World)(hs:s.size≤1048576)(hv:zao s 0=true)(x:ByteArray)(hl:Hid (words s=[x]))(hx:x.size≤1048576)(hx1:1≤x.size)(hnf:(x.toList == [102,117,110,99])=false)(hlast:((x[x.size-1].toNat:Int) == 58)=false)(sh:List UInt8)(HS:Hid (zaa x=sh))(_hsh:sh.length≤3)(h63:(sh == [63])=true):
  Calls Tryz.prog 46 #[.string s] w (zcl w.heap.size w ⟨105,[x],false⟩):=by
 go_enter Tryz.func46,Tryz.ntmps46
 go_wp2_with(first
  | (go_at_call 71;refine(zcd s _ (by omega)).mono ?_;rintro e w' ⟨rfl,rfl⟩)
  | (go_at_call 74;refine(zeM x _ sh HS).mono ?_;rintro e w' ⟨rfl,rfl⟩)
  | (go_at_call 72;refine(zde s w (by omega) _ hl (by simp)).mono ?_;rintro e w1 ⟨g,cap,rfl,hcap,hmx,hcl,hown,K⟩;obtain⟨hg3,hg2,hb,c0,c1,d0,d1,e0,e1,f0,f1⟩:=K;have hne:¬w.heap.size+1=g:=(by omega);have hne0:¬w.heap.size=g:=(by omega);have hc0:=hcl 0 (by simp);simp only [List.getElem_cons_zero] at hc0))
 go_light
 obtain⟨p0,p1⟩:=zca (W:=zev w w1 105 (.slice (some ⟨g,0,none⟩) 1 cap)) (b:=w.heap.size) (za7 c0) (za7 c1)
 exact bodyPost_ret (v:=.tuple #[.agg #[.int .u8 105,.slice (some ⟨g,0,none⟩) 1 cap],.bool false]) (by simp [results,Tryz.results46,go_sem,p0,p1]) rfl (zcf (by simpa using hown) hb)
theorem zr3(s:ByteArray)(w:World)(hs:s.size≤1048576)(hv:zao s 0=true)(x:ByteArray)(hl:Hid (words s=[x]))(hx:x.size≤1048576)(hx1:1≤x.size)(hnf:(x.toList == [102,117,110,99])=false)(hlast:((x[x.size-1].toNat:Int) == 58)=false)(sh:List UInt8)(HS:Hid (zaa x=sh))(hsh:sh.length≤3)(h63:(sh == [63])=false)(hne1:((1:Int) != (sh.length:Int)+1)=true):
  Calls Tryz.prog 46 #[.string s] w (zcl w.heap.size w ⟨105,[x],false⟩):=by
 go_enter Tryz.func46,Tryz.ntmps46
 go_wp2_with(first
  | (go_at_call 71;refine(zcd s _ (by omega)).mono ?_;rintro e w' ⟨rfl,rfl⟩)
  | (go_at_call 74;refine(zeM x _ sh HS).mono ?_;rintro e w' ⟨rfl,rfl⟩)
  | (go_at_call 72;refine(zde s w (by omega) _ hl (by simp)).mono ?_;rintro e w1 ⟨g,cap,rfl,hcap,hmx,hcl,hown,K⟩;obtain⟨hg3,hg2,hb,c0,c1,d0,d1,e0,e1,f0,f1⟩:=K;have hne:¬w.heap.size+1=g:=(by omega);have hne0:¬w.heap.size=g:=(by omega);have hc0:=hcl 0 (by simp);simp only [List.getElem_cons_zero] at hc0))
 go_light
 obtain⟨p0,p1⟩:=zca (W:=zev w w1 105 (.slice (some ⟨g,0,none⟩) 1 cap)) (b:=w.heap.size) (za7 c0) (za7 c1)
 exact bodyPost_ret (v:=.tuple #[.agg #[.int .u8 105,.slice (some ⟨g,0,none⟩) 1 cap],.bool false]) (by simp [results,Tryz.results46,go_sem,p0,p1]) rfl (zcf (by simpa using hown) hb)
theorem zr4(s:ByteArray)(w:World)(hs:s.size≤1048576)(hv:zao s 0=true)(x:ByteArray)(r:List ByteArray)(hl:Hid (words s=x :: r))(_hx:x.size≤1048576)(_hx1:1≤x.size)(hnf:(x.toList == [102,117,110,99])=false)(hr:r.length≤1048576)(hr1:1≤r.length)(hr2:((r.length:Int)+1 == 1)=false)(sh:List UInt8)(HS:Hid (zaa x=sh))(_hsh:sh.length≤3)(h63:(sh == [63])=true):
  Calls Tryz.prog 46 #[.string s] w (zcl w.heap.size w ⟨105,x :: r,false⟩):=by
 go_enter Tryz.func46,Tryz.ntmps46
 go_wp2_with(first
  | (go_at_call 71;refine(zcd s _ (by omega)).mono ?_;rintro e w' ⟨rfl,rfl⟩)
  | (go_at_call 74;refine(zeM x _ sh HS).mono ?_;rintro e w' ⟨rfl,rfl⟩)
  | (go_at_call 72;refine(zde s w (by omega) _ hl (by simp)).mono ?_;rintro e w1 ⟨g,cap,rfl,hcap,hmx,hcl,hown,K⟩;obtain⟨hg3,hg2,hb,c0,c1,d0,d1,e0,e1,f0,f1⟩:=K;have hne:¬w.heap.size+1=g:=(by omega);have hne0:¬w.heap.size=g:=(by omega);have hc0:=hcl 0 (by simp);simp only [List.getElem_cons_zero] at hc0))
 go_light
 obtain⟨p0,p1⟩:=zca (W:=zev w w1 105 (.slice (some ⟨g,0,none⟩) (r.length+1) cap)) (b:=w.heap.size) (za7 c0) (za7 c1)
 exact bodyPost_ret (v:=.tuple #[.agg #[.int .u8 105,.slice (some ⟨g,0,none⟩) (r.length+1) cap],.bool false]) (by simp [results,Tryz.results46,go_sem,p0,p1]) rfl (zcf (by simpa using hown) hb)
theorem zr5(s:ByteArray)(w:World)(hs:s.size≤1048576)(hv:zao s 0=true)(x:ByteArray)(r:List ByteArray)(hl:Hid (words s=x :: r))(_hx:x.size≤1048576)(_hx1:1≤x.size)(hnf:(x.toList == [102,117,110,99])=false)(hr:r.length≤1048576)(hr1:1≤r.length)(hr2:((r.length:Int)+1 == 1)=false)(sh:List UInt8)(HS:Hid (zaa x=sh))(hsh:sh.length≤3)(h63:(sh == [63])=false)(hne1:((r.length:Int)+1 != (sh.length:Int)+1)=true):
  Calls Tryz.prog 46 #[.string s] w (zcl w.heap.size w ⟨105,x :: r,false⟩):=by
 go_enter Tryz.func46,Tryz.ntmps46
 go_wp2_with(first
  | (go_at_call 71;refine(zcd s _ (by omega)).mono ?_;rintro e w' ⟨rfl,rfl⟩)
  | (go_at_call 74;refine(zeM x _ sh HS).mono ?_;rintro e w' ⟨rfl,rfl⟩)
  | (go_at_call 72;refine(zde s w (by omega) _ hl (by simp)).mono ?_;rintro e w1 ⟨g,cap,rfl,hcap,hmx,hcl,hown,K⟩;obtain⟨hg3,hg2,hb,c0,c1,d0,d1,e0,e1,f0,f1⟩:=K;have hne:¬w.heap.size+1=g:=(by omega);have hne0:¬w.heap.size=g:=(by omega);have hc0:=hcl 0 (by simp);simp only [List.getElem_cons_zero] at hc0))
 go_light
 obtain⟨p0,p1⟩:=zca (W:=zev w w1 105 (.slice (some ⟨g,0,none⟩) (r.length+1) cap)) (b:=w.heap.size) (za7 c0) (za7 c1)
 exact bodyPost_ret (v:=.tuple #[.agg #[.int .u8 105,.slice (some ⟨g,0,none⟩) (r.length+1) cap],.bool false]) (by simp [results,Tryz.results46,go_sem,p0,p1]) rfl (zcf (by simpa using hown) hb)
end Go.Proofs.YtfpgjkbjbbgciaaGreatDoor
namespace Go.Proofs.YtfpgjkbjbbgciaaGreatDoor.Sp
inductive Ins where
 | set (r:Nat) (k:Int)
 | mov (r s:Nat)
 | alu (o:Nat) (r s t:Nat)
 | inc (r:Nat) (k:Int)
 | load (r s:Nat)
 | store (r s:Nat)
 | read (r:Nat)
 | write (r:Nat)
 | jump (to:Int)
 | less (r s:Nat) (to:Int)
 | same (r s:Nat) (to:Int)
 | call (to:Int)
 | back
 | stop
structure Mc where
 at':Int
 backs:List Int
 inp:List Int
 steps:Int
 regs:Nat→Int
 cells:Nat→Int
 out:List Int
 frames:Int
 peak:Int
 fin:Int
def upd(f:Nat→Int)(i:Nat)(v:Int):Nat→Int:=fun j=>if j=i then v else f j
theorem zef(f:Nat→Int)(i:Nat)(v:Int):upd f i v i=v:=by simp [upd]
theorem zdy(f:Nat→Int)(i j:Nat)(v:Int)(h:¬j=i):upd f i v j=f j:=by simp [upd,h]
def w64(x:Int):Int:=(x+9223372036854775808)%18446744073709551616-9223372036854775808
def zbr(o:Nat)(a b:Int):Int:=if o=0 then w64 (a+b) else if o=1 then w64 (a-b) else w64 (a*b)
def Mc.goes(m:Mc)(to:Int):Mc:={ m with steps:=m.steps+1,at':=to }
def exec(i:Ins)(next:Int)(m:Mc):Mc :=
 match i with
 | .set r k=>{ m with regs:=upd m.regs r k }.goes next
 | .mov r s=>{ m with regs:=upd m.regs r (m.regs s) }.goes next
 | .alu o r s t=>{ m with regs:=upd m.regs r (zbr o (m.regs s) (m.regs t)) }.goes next
 | .inc r k=>{ m with regs:=upd m.regs r (w64 (m.regs r+k)) }.goes next
 | .load r s=>if m.regs s<0∨15<m.regs s then{ m with fin:=3 } else{ m with regs:=upd m.regs r (m.cells (m.regs s).toNat) }.goes next
 | .store r s=>if m.regs r<0∨15<m.regs r then{ m with fin:=3 } else{ m with cells:=upd m.cells (m.regs r).toNat (m.regs s) }.goes next
 | .read r=>{ m with regs:=upd m.regs r (m.inp.headD 0),inp:=m.inp.tail }.goes next
 | .write r=>{ m with out:=m.out++[m.regs r] }.goes next
 | .jump to=>m.goes to
 | .less r s to=>m.goes (if m.regs r<m.regs s then to else next)
 | .same r s to=>m.goes (if m.regs r=m.regs s then to else next)
 | .call to=>if m.frames=16 then{ m with fin:=4 } else{ m with backs:=m.backs++[next],frames:=m.frames+1,peak:=max m.peak (m.frames+1) }.goes to
 | .back=>if m.frames=1 then{ m with frames:=0,fin:=2 }.goes (-1) else{ m with frames:=m.frames-1,backs:=m.backs.dropLast }.goes (m.backs.getLastD 0)
 | .stop=>{ m with fin:=1 }.goes (-1)
def zad(L:List Said)(i:Nat):Int :=
 if h:i<L.length then(if L[i].kind=102 then -1 else if L[i].kind=105 then(i:Int) else zad L (i+1)) else -1
termination_by L.length-i
theorem zgK(L:List Said)(i:Nat)(h:¬i<L.length):zad L i=-1:=by rw [zad,dif_neg h]
theorem zje(L:List Said)(i:Nat)(h:i<L.length)(h':L[i].kind=102):zad L i=-1:=by rw [zad,dif_pos h,if_pos h']
theorem ze3(L:List Said)(i:Nat)(h:i<L.length)(h':L[i].kind=105):zad L i=i:=by rw [zad,dif_pos h,if_neg (by omega),if_pos h']
theorem zeg(L:List Said)(i:Nat)(h:i<L.length)(h0:¬L[i].kind=102)(h':¬L[i].kind=105):zad L i=zad L (i+1):=by rw [zad,dif_pos h,if_neg h0,if_neg h']
def regN(x:ByteArray):Nat:=(reg x).toNat
def zeq(L:List Said)(k:Nat)(x:ByteArray):Int:=zad L (zbZ L k x).toNat
def fnTo(L:List Said)(x:ByteArray):Int:=zad L (zaJ L x 0+1).toNat
def insQ(L:List Said)(k:Nat)(q:Said):Ins :=
 if isW (q.word 0) [106,117,109,112]=true then .jump (zeq L k q.last)
 else if isW (q.word 0) [108,101,115,115]=true then .less (regN (q.word 1)) (regN (q.word 2)) (zeq L k q.last)
 else if isW (q.word 0) [115,97,109,101]=true then .same (regN (q.word 1)) (regN (q.word 2)) (zeq L k q.last)
 else if isW (q.word 0) [99,97,108,108]=true then .call (fnTo L q.last)
 else if isW (q.word 0) [98,97,99,107]=true then .back
 else if isW (q.word 0) [115,116,111,112]=true then .stop
 else if isW (q.word 0) [115,101,116]=true then .set (regN (q.word 1)) (zaE (q.word 2)).1
 else if isW (q.word 0) [109,111,118]=true then .mov (regN (q.word 1)) (regN (q.word 2))
 else if isW (q.word 0) [97,100,100]=true then .alu 0 (regN (q.word 1)) (regN (q.word 2)) (regN (q.word 3))
 else if isW (q.word 0) [115,117,98]=true then .alu 1 (regN (q.word 1)) (regN (q.word 2)) (regN (q.word 3))
 else if isW (q.word 0) [109,117,108]=true then .alu 2 (regN (q.word 1)) (regN (q.word 2)) (regN (q.word 3))
 else if isW (q.word 0) [105,110,99]=true then .inc (regN (q.word 1)) (zaE (q.word 2)).1
 else if isW (q.word 0) [108,111,97,100]=true then .load (regN (q.word 1)) (regN (q.word 2))
 else if isW (q.word 0) [115,116,111,114,101]=true then .store (regN (q.word 1)) (regN (q.word 2))
 else if isW (q.word 0) [114,101,97,100]=true then .read (regN (q.word 1))
 else .write (regN (q.word 1))
def zbP(L:List Said)(m:Mc):Mc :=
 match L[m.at'.toNat]? with
 | none=>m
 | some q=>exec (insQ L m.at'.toNat q) (zad L (m.at'.toNat+1)) m
def runS(f:Mc→Mc):Nat→Mc→Mc
 | 0,m=>m
 | n+1,m=>if m.fin=0 then runS f n (f m) else m
theorem zcG(f:Mc→Mc)(n:Nat)(m:Mc)(h:¬m.fin=0):runS f n m=m:=by
 cases n with
 | zero=>rfl
 | succ n=>show(if m.fin=0 then _ else _)=m;rw [if_neg h]
theorem zcH(f:Mc→Mc)(n:Nat)(m:Mc)(h:m.fin=0):runS f (n+1) m=runS f n (f m):=by
 show(if m.fin=0 then _ else _)=_;rw [if_pos h]
def zc3(L:List Said)(i:Nat):Nat:=if h:i<L.length then(if L[i].kind=102 then i else zc3 L (i+1)) else i
termination_by L.length-i
def ze4(L:List Said)(inp:List Int):Mc:=⟨zad L (zc3 L 0+1),[],inp,0,fun _=>0,fun _=>0,[],1,1,0⟩
def Mc.line(m:Mc):Int:=if m.fin=1∨m.fin=2 then 0 else m.at'+1
end Go.Proofs.YtfpgjkbjbbgciaaGreatDoor.Sp
namespace Go.Proofs.YtfpgjkbjbbgciaaGreatDoor
open Go.RowKit Sp
theorem zxN(a b:UInt8)(h:((a.toNat:Int) == (b.toNat:Int))=true):a=b:=by
 rw [beq_iff_eq] at h;exact UInt8.toNat_inj.1 (by omega)
theorem zxO(a b:UInt8)(h:((a.toNat:Int) == (b.toNat:Int))=false):¬a=b:=by
 intro e;subst e;simp at h
theorem zwl(a:UInt8)(y:ByteArray)(h:((a.toNat:Int) == 82)=true):opOk a y=decide (0≤reg y):=by
 have:=zxN a 82 h;subst this;rfl
theorem zwm(a:UInt8)(y:ByteArray)(h:((a.toNat:Int) == 75)=true):opOk a y=(zaE y).2:=by
 have:=zxN a 75 h;subst this;rfl
theorem zwn(a:UInt8)(y:ByteArray)(h:((a.toNat:Int) == 82)=false)(h':((a.toNat:Int) == 75)=false):opOk a y=za2 y:=by
 unfold opOk;rw [if_neg (zxO a 82 h),if_neg (zxO a 75 h')]
theorem zut(s:ByteArray)(w:World)(hs:s.size≤1048576)(hv:zao s 0=true)(x:ByteArray)(hl:Hid (words s=[x]))(hx:x.size≤1048576)(hx1:1≤x.size)(hnf:(x.toList == [102,117,110,99])=false)(hlast:((x[x.size-1].toNat:Int) == 58)=false)(HS:Hid (zaa x=[])):
  Calls Tryz.prog 46 #[.string s] w (zcl w.heap.size w ⟨105,[x],true⟩):=by
 go_enter Tryz.func46,Tryz.ntmps46
 go_wp2_with(first
  | (go_at_call 71;refine(zcd s _ (by omega)).mono ?_;rintro e w' ⟨rfl,rfl⟩)
  | (go_at_call 74;refine(zeM x _ [] HS).mono ?_;rintro e w' ⟨rfl,rfl⟩)
  | (go_at_call 72;refine(zde s w (by omega) _ hl (by simp)).mono ?_;rintro e w1 ⟨g,cap,rfl,hcap,hmx,hcl,hown,K⟩;obtain⟨hg3,hg2,hb,c0,c1,d0,d1,e0,e1,f0,f1⟩:=K;have hne:¬w.heap.size+1=g:=(by omega);have hne0:¬w.heap.size=g:=(by omega);have hc0:=hcl 0 (by simp);simp only [List.getElem_cons_zero] at hc0))
 refine wp_loop_rounds 1 ?_
 rw [rounds_succ]
 go_wp2
 go_light
 obtain⟨p0,p1⟩:=zca (W:=zev w w1 105 (.slice (some ⟨g,0,none⟩) 1 cap)) (b:=w.heap.size) (za7 c0) (za7 c1)
 exact bodyPost_ret (v:=.tuple #[.agg #[.int .u8 105,.slice (some ⟨g,0,none⟩) 1 cap],.bool true]) (by simp [results,Tryz.results46,go_sem,p0,p1]) rfl (zcf (by simpa using hown) hb)
theorem zuu(s:ByteArray)(w:World)(hs:s.size≤1048576)(hv:zao s 0=true)(x:ByteArray)(r:List ByteArray)(hl:Hid (words s=x :: r))(_hx:x.size≤1048576)(_hx1:1≤x.size)(hnf:(x.toList == [102,117,110,99])=false)(hr1:1≤r.length)(hr2:((r.length:Int)+1 == 1)=false)(hrs:∀ j (hj:j<r.length),r[j].size≤1048576)
  (sh:List UInt8) (HS:Hid (zaa x=sh)) (hsh:sh.length≤3) (h63:(sh == [63])=false) (hrl:r.length≤1048576) (hle:sh.length≤r.length) (hge:r.length≤sh.length) :
  Calls Tryz.prog 46 #[.string s] w (zcl w.heap.size w ⟨105,x :: r,zaT sh r⟩):=by
 have hne1:((r.length:Int)+1 != (sh.length:Int)+1)=false:=by simp;omega
 generalize hO:zaT sh r=O
 have HO:Hid (O=zaT (sh.drop 0) (r.drop 0)):=by rw [←hO];rfl
 clear hO
 go_enter Tryz.func46,Tryz.ntmps46
 go_wp2_with(first
  | (go_at_call 71;refine(zcd s _ (by omega)).mono ?_;rintro e w' ⟨rfl,rfl⟩)
  | (go_at_call 74;refine(zeM x _ sh HS).mono ?_;rintro e w' ⟨rfl,rfl⟩)
  | (go_at_call 72;refine(zde s w (by omega) _ hl (by simp)).mono ?_;rintro e w1 ⟨g,cap,rfl,hcap,hmx,hcl,hown,K⟩;obtain⟨hg3,hg2,hb,c0,c1,d0,d1,e0,e1,f0,f1⟩:=K;have hne:¬w.heap.size+1=g:=(by omega);have hne0:¬w.heap.size=g:=(by omega);have hc0:=hcl 0 (by simp);simp only [List.getElem_cons_zero] at hc0))
 go_loop [11] (fun ti=>∃ k:Nat,k≤sh.length∧ti=.int .i64 (k:Int)∧O=zaT (sh.drop k) (r.drop k)) (fun ti=>sh.length-(intOf ti).toNat)
 case atStart=>exact⟨0,by omega,rfl,HO.out⟩
 case round =>
  obtain⟨k,hk,rfl,hR⟩:=hrel
  clear HO
  have HO:Hid (O=zaT (sh.drop k) (r.drop k)):=hR
  clear hR
  by_cases hlt:k<sh.length
  ·have hkr:k<r.length:=by omega
   have hck:=hcl (k+1) (by simp;omega)
   simp only [List.getElem_cons_succ] at hck
   have hsz:=hrs k hkr
   have HT:Hid (O=(opOk sh[k] r[k]&&zaT (sh.drop (k+1)) (r.drop (k+1)))):=by rw [HO.out,ziP sh r k hlt hkr];rfl
   have hW:k<(⟨sh.toArray⟩:ByteArray).size:=hlt
   cases h82:((((⟨sh.toArray⟩:ByteArray)[k]'hW).toNat:Int) == 82) with
   | true =>
    by_cases hq:0≤reg r[k]
    ·have HQ:Hid (opOk sh[k] r[k]=true):=(zwl sh[k] r[k] h82).trans (by simpa using hq)
     go_wp2_with(go_at_call 75;refine(zms r[k] _ (by unfold maxLen;omega)).mono ?_;rintro e w' ⟨rfl,rfl⟩)
     go_round
     case rel=>exact⟨k+1,by omega,by go_num,by rw [HT.out,HQ.out];simp⟩
     case measure=>simp [intOf];omega
    ·have HQ:Hid (opOk sh[k] r[k]=false):=(zwl sh[k] r[k] h82).trans (by simpa using hq)
     have hq2:reg r[k]<0:=by omega
     have hq3:decide (0≤reg r[k])=false:=by simpa using hq
     go_wp2_with(go_at_call 75;refine(zms r[k] _ (by unfold maxLen;omega)).mono ?_;rintro e w' ⟨rfl,rfl⟩)
     go_light
     obtain⟨p0,p1⟩:=zca (W:=zev w w1 105 (.slice (some ⟨g,0,none⟩) (r.length+1) cap)) (b:=w.heap.size) (za7 c0) (za7 c1)
     have hOf:O=false:=by rw [HT.out,HQ.out];simp
     rw [hOf]
     exact bodyPost_ret (v:=.tuple #[.agg #[.int .u8 105,.slice (some ⟨g,0,none⟩) (r.length+1) cap],.bool false]) (by simp [results,Tryz.results46,go_sem,p0,p1]) rfl (zcf (by simpa using hown) hb)
   | false =>
    cases h75:((((⟨sh.toArray⟩:ByteArray)[k]'hW).toNat:Int) == 75) with
    | true =>
     cases hq:(zaE r[k]).2 with
     | true =>
      have HQ:Hid (opOk sh[k] r[k]=true):=(zwm sh[k] r[k] h75).trans hq
      go_wp2_with(go_at_call 76;refine(zmx r[k] _ (by omega)).mono ?_;rintro e w' ⟨rfl,rfl⟩)
      go_round
      case rel=>exact⟨k+1,by omega,by go_num,by rw [HT.out,HQ.out];simp⟩
      case measure=>simp [intOf];omega
     | false =>
      have HQ:Hid (opOk sh[k] r[k]=false):=(zwm sh[k] r[k] h75).trans hq
      go_wp2_with(go_at_call 76;refine(zmx r[k] _ (by omega)).mono ?_;rintro e w' ⟨rfl,rfl⟩)
      go_light
      obtain⟨p0,p1⟩:=zca (W:=zev w w1 105 (.slice (some ⟨g,0,none⟩) (r.length+1) cap)) (b:=w.heap.size) (za7 c0) (za7 c1)
      have hOf:O=false:=by rw [HT.out,HQ.out];simp
      rw [hOf]
      exact bodyPost_ret (v:=.tuple #[.agg #[.int .u8 105,.slice (some ⟨g,0,none⟩) (r.length+1) cap],.bool false]) (by simp [results,Tryz.results46,go_sem,p0,p1]) rfl (zcf (by simpa using hown) hb)
    | false =>
     cases hq:za2 r[k] with
     | true =>
      have HQ:Hid (opOk sh[k] r[k]=true):=(zwn sh[k] r[k] h82 h75).trans hq
      go_wp2_with(go_at_call 73;refine(zha r[k] _ (by omega)).mono ?_;rintro e w' ⟨rfl,rfl⟩)
      go_round
      case rel=>exact⟨k+1,by omega,by go_num,by rw [HT.out,HQ.out];simp⟩
      case measure=>simp [intOf];omega
     | false =>
      have HQ:Hid (opOk sh[k] r[k]=false):=(zwn sh[k] r[k] h82 h75).trans hq
      go_wp2_with(go_at_call 73;refine(zha r[k] _ (by omega)).mono ?_;rintro e w' ⟨rfl,rfl⟩)
      go_light
      obtain⟨p0,p1⟩:=zca (W:=zev w w1 105 (.slice (some ⟨g,0,none⟩) (r.length+1) cap)) (b:=w.heap.size) (za7 c0) (za7 c1)
      have hOf:O=false:=by rw [HT.out,HQ.out];simp
      rw [hOf]
      exact bodyPost_ret (v:=.tuple #[.agg #[.int .u8 105,.slice (some ⟨g,0,none⟩) (r.length+1) cap],.bool false]) (by simp [results,Tryz.results46,go_sem,p0,p1]) rfl (zcf (by simpa using hown) hb)
  ·have HT:Hid (O=true):=by rw [HO.out,List.drop_of_length_le (by omega)];rfl
   go_wp2
   go_light
   obtain⟨p0,p1⟩:=zca (W:=zev w w1 105 (.slice (some ⟨g,0,none⟩) (r.length+1) cap)) (b:=w.heap.size) (za7 c0) (za7 c1)
   rw [HT.out]
   exact bodyPost_ret (v:=.tuple #[.agg #[.int .u8 105,.slice (some ⟨g,0,none⟩) (r.length+1) cap],.bool true]) (by simp [results,Tryz.results46,go_sem,p0,p1]) rfl (zcf (by simpa using hown) hb)
end Go.Proofs.YtfpgjkbjbbgciaaGreatDoor
namespace Go.Proofs.YtfpgjkbjbbgciaaGreatDoor.Sp
def i64(x:Int):Prop:=-9223372036854775808≤x∧x≤9223372036854775807
theorem zdO(x:Int):i64 (w64 x):=by unfold i64 w64;omega
theorem zfV{x:Int}(h:i64 x):w64 x=x:=by unfold i64 at h;unfold w64;omega
theorem zia(x:Int):(w64 x)%18446744073709551616=x%18446744073709551616:=by unfold w64;omega
theorem zlE{x y:Int}(h:x%18446744073709551616=y%18446744073709551616):w64 x=w64 y:=by unfold w64;omega
structure Rg where
 lo:Int
 hi:Int
def Rg.In(r:Rg)(x:Int):Prop:=r.lo≤x∧x≤r.hi
def Rg.Ok(r:Rg):Prop:=i64 r.lo∧i64 r.hi∧r.lo≤r.hi
def only(n:Int):Rg:=⟨n,n⟩
def anyR:Rg:=⟨-9223372036854775808,9223372036854775807⟩
theorem zg2(n:Int):(only n).In n:=⟨Int.le_refl _,Int.le_refl _⟩
theorem zib{n:Int}(h:i64 n):(only n).Ok:=⟨h,h,Int.le_refl _⟩
theorem zsX{x:Int}(h:i64 x):anyR.In x:=h
theorem zsY:anyR.Ok:=by unfold Rg.Ok anyR i64;dsimp only;omega
def Rg.within(r o:Rg):Bool:=decide (o.lo≤r.lo)&&decide (r.hi≤o.hi)
def Rg.or(r o:Rg):Rg:=⟨min r.lo o.lo,max r.hi o.hi⟩
theorem zki{r:Rg}{x:Int}(h:r.In x)(o:Rg):(r.or o).In x:=by unfold Rg.In Rg.or at *;dsimp only;omega
theorem zhj{o:Rg}{x:Int}(h:o.In x)(r:Rg):(r.or o).In x:=by unfold Rg.In Rg.or at *;dsimp only;omega
theorem zv2{r o:Rg}(h:r.Ok)(h':o.Ok):(r.or o).Ok:=by unfold Rg.Ok Rg.or i64 at *;dsimp only;omega
def Rg.width(r:Rg):Int:=(r.hi-r.lo)%18446744073709551616
theorem zoC{r:Rg}(h:r.Ok):r.width=r.hi-r.lo:=by unfold Rg.Ok i64 at h;unfold Rg.width;omega
def zfz(low:Int)(one other:Rg):Rg :=
 if 18446744073709551616≤one.width+other.width∨w64 (low+(one.width+other.width))<low then anyR else⟨low,w64 (low+(one.width+other.width))⟩
theorem zsZ{low d:Int}{one other:Rg}(h1:one.Ok)(h2:other.Ok)(hl:i64 low)(h0:0≤d)(hd:d≤(one.hi-one.lo)+(other.hi-other.lo)){x:Int}(hx:x%18446744073709551616=(low+d)%18446744073709551616):(zfz low one other).In (w64 x):=by
 unfold zfz
 rw [zoC h1,zoC h2]
 split
 ·exact zsX (zdO x)
 ·rename_i h
  have hh:=zdO (low+(one.hi-one.lo+(other.hi-other.lo)))
  have hm:=zia (low+(one.hi-one.lo+(other.hi-other.lo)))
  unfold i64 at hl hh
  unfold Rg.In
  dsimp only
  generalize w64 (low+(one.hi-one.lo+(other.hi-other.lo)))=hi at h hh hm ⊢
  generalize one.hi-one.lo+(other.hi-other.lo)=W at *
  have e:hi=low+W:=by omega
  have e2:w64 x=low+d:=by rw [zlE hx];exact zfV (by unfold i64;omega)
  omega
theorem zta{low:Int}{one other:Rg}(hl:i64 low):(zfz low one other).Ok:=by
 unfold zfz
 split
 ·exact zsY
 ·rename_i h
  exact⟨hl,zdO _,by dsimp only;omega⟩
def Rg.plus(r o:Rg):Rg:=zfz (w64 (r.lo+o.lo)) r o
def Rg.minus(r o:Rg):Rg:=zfz (w64 (r.lo-o.hi)) r o
theorem ztb{r o:Rg}{x y:Int}(hr:r.Ok)(ho:o.Ok)(hx:r.In x)(hy:o.In y):(r.plus o).In (w64 (x+y)):=by
 unfold Rg.In at hx hy
 refine zsZ (d:=(x-r.lo)+(y-o.lo)) hr ho (zdO _) (by omega) (by omega) ?_
 have:=zia (r.lo+o.lo)
 omega
theorem zv3{r o:Rg}{x y:Int}(hr:r.Ok)(ho:o.Ok)(hx:r.In x)(hy:o.In y):(r.minus o).In (w64 (x-y)):=by
 unfold Rg.In at hx hy
 refine zsZ (d:=(x-r.lo)+(o.hi-y)) hr ho (zdO _) (by omega) (by omega) ?_
 have:=zia (r.lo-o.hi)
 omega
theorem ztc(r o:Rg):(r.plus o).Ok:=zta (zdO _)
theorem zv4(r o:Rg):(r.minus o).Ok:=zta (zdO _)
def zbC(a b:Int):Bool:=if a=-1 then decide (b=-9223372036854775808) else decide (¬a=0)&&decide (¬(w64 (a*b)).tdiv a=b)
theorem zc0{a b:Int}(ha:i64 a)(hb:i64 b)(h:zbC a b=false):i64 (a*b):=by
 unfold zbC at h
 split at h
 ·rename_i e
  subst e
  simp at h
  unfold i64 at *
  omega
 ·rename_i e
  simp only [Bool.and_eq_false_iff,decide_eq_false_iff_not,Decidable.not_not] at h
  rcases h with h|h
  ·subst h;simp [i64]
  ·have hm:=zia (a*b)
   have hw:=zdO (a*b)
   have hd:=Int.mul_tdiv_add_tmod (w64 (a*b)) a
   rw [h] at hd
   by_cases h0:a=0
   ·subst h0;simp [i64]
   ·have hlt:(Int.tmod (w64 (a*b)) a).natAbs<a.natAbs:=by
     rw [Int.natAbs_tmod];exact Nat.mod_lt _ (by omega)
    generalize Int.tmod (w64 (a*b)) a=t at hd hlt
    generalize a*b=p at *
    have:t=0:=by unfold i64 at *;omega
    have e2:w64 p=p:=by omega
    rw [←e2];exact hw
def Rg.times(r o:Rg):Rg :=
 if r.lo=r.hi∧o.lo=o.hi then only (w64 (r.lo*o.lo))
 else if zbC r.lo o.lo=true∨zbC r.lo o.hi=true∨zbC r.hi o.lo=true∨zbC r.hi o.hi=true then anyR
 else⟨min (min (min (r.lo*o.lo) (r.lo*o.hi)) (r.hi*o.lo)) (r.hi*o.hi),max (max (max (r.lo*o.lo) (r.lo*o.hi)) (r.hi*o.lo)) (r.hi*o.hi)⟩
theorem zf0{a b x c:Int}(h1:a≤x)(h2:x≤b):min (a*c) (b*c)≤x*c∧x*c≤max (a*c) (b*c):=by
 rcases Int.le_total 0 c with h|h
 ·have:=Int.mul_le_mul_of_nonneg_right h1 h
  have:=Int.mul_le_mul_of_nonneg_right h2 h
  omega
 ·have:=Int.mul_le_mul_of_nonpos_right h1 h
  have:=Int.mul_le_mul_of_nonpos_right h2 h
  omega
theorem zv5{r o:Rg}{x y:Int}(hr:r.Ok)(ho:o.Ok)(hx:r.In x)(hy:o.In y):(r.times o).In (w64 (x*y)):=by
 unfold Rg.times
 split
 ·rename_i h
  unfold Rg.In at hx hy
  have e1:x=r.lo:=by omega
  have e2:y=o.lo:=by omega
  rw [e1,e2];exact zg2 _
 ·split
  ·exact zsX (zdO _)
  ·rename_i h
   simp only [not_or,Bool.not_eq_true] at h
   obtain⟨w1,w2,w3,w4⟩:=h
   have i1:=zc0 hr.1 ho.1 w1
   have i2:=zc0 hr.1 ho.2.1 w2
   have i3:=zc0 hr.2.1 ho.1 w3
   have i4:=zc0 hr.2.1 ho.2.1 w4
   obtain⟨a1,a2⟩:=zf0 (c:=y) hx.1 hx.2
   have b1:=zf0 (c:=r.lo) hy.1 hy.2
   have b2:=zf0 (c:=r.hi) hy.1 hy.2
   rw [Int.mul_comm o.lo,Int.mul_comm o.hi,Int.mul_comm y] at b1 b2
   unfold i64 at i1 i2 i3 i4
   generalize r.lo*o.lo=p1 at *
   generalize r.lo*o.hi=p2 at *
   generalize r.hi*o.lo=p3 at *
   generalize r.hi*o.hi=p4 at *
   generalize r.lo*y=q1 at *
   generalize r.hi*y=q2 at *
   rw [zfV (by unfold i64;omega)]
   unfold Rg.In
   dsimp only
   omega
theorem zv6{r o:Rg}(hr:r.Ok)(ho:o.Ok):(r.times o).Ok:=by
 unfold Rg.times
 split
 ·exact zib (zdO _)
 ·split
  ·exact zsY
  ·rename_i h
   simp only [not_or,Bool.not_eq_true] at h
   obtain⟨w1,w2,w3,w4⟩:=h
   have i1:=zc0 hr.1 ho.1 w1
   have i2:=zc0 hr.1 ho.2.1 w2
   have i3:=zc0 hr.2.1 ho.1 w3
   have i4:=zc0 hr.2.1 ho.2.1 w4
   unfold Rg.Ok i64 at *
   dsimp only
   generalize r.lo*o.lo=p1 at *
   generalize r.lo*o.hi=p2 at *
   generalize r.hi*o.lo=p3 at *
   generalize r.hi*o.hi=p4 at *
   omega
def zeB(l r:Rg):Option (Rg × Rg):=if r.hi≤l.lo then none else some (⟨l.lo,min l.hi (r.hi-1)⟩,⟨max (l.lo+1) r.lo,r.hi⟩)
def zbv(l r:Rg):Option (Rg × Rg):=if l.hi<r.lo then none else some (⟨max l.lo r.lo,l.hi⟩,⟨r.lo,min l.hi r.hi⟩)
def zeC(l r:Rg):Option (Rg × Rg):=if max l.lo r.lo≤min l.hi r.hi then some (⟨max l.lo r.lo,min l.hi r.hi⟩,⟨max l.lo r.lo,min l.hi r.hi⟩) else none
def Rg.without(r o:Rg):Rg:=if o.lo=o.hi then(if o.lo=r.lo then⟨r.lo+1,r.hi⟩ else if o.lo=r.hi then⟨r.lo,r.hi-1⟩ else r) else r
def zaI(l r:Rg):Option (Rg × Rg):=if(l.lo=r.lo∧l.hi=r.hi)∧l.lo=l.hi then none else some (l.without r,r.without l)
theorem zxr{l r:Rg}{x y:Int}(hx:l.In x)(hy:r.In y)(h:x<y):∃ a b,zeB l r=some (a,b)∧a.In x∧b.In y:=by
 unfold Rg.In at *
 unfold zeB
 rw [if_neg (by omega)]
 exact⟨_,_,rfl,by dsimp only;omega,by dsimp only;omega⟩
theorem zqo{l r:Rg}{x y:Int}(hx:l.In x)(hy:r.In y)(h:¬x<y):∃ a b,zbv l r=some (a,b)∧a.In x∧b.In y:=by
 unfold Rg.In at *
 unfold zbv
 rw [if_neg (by omega)]
 exact⟨_,_,rfl,by dsimp only;omega,by dsimp only;omega⟩
theorem zxs{l r:Rg}{x y:Int}(hx:l.In x)(hy:r.In y)(h:x=y):∃ a b,zeC l r=some (a,b)∧a.In x∧b.In y:=by
 unfold Rg.In at *
 unfold zeC
 rw [if_pos (by omega)]
 exact⟨_,_,rfl,by dsimp only;omega,by dsimp only;omega⟩
theorem zju{r o:Rg}{x y:Int}(hx:r.In x)(hy:o.In y)(h:¬x=y):(r.without o).In x:=by
 unfold Rg.In at *
 unfold Rg.without
 repeat' split
 all_goals(try dsimp only)
 all_goals omega
theorem zqp{l r:Rg}{x y:Int}(hx:l.In x)(hy:r.In y)(h:¬x=y):∃ a b,zaI l r=some (a,b)∧a.In x∧b.In y:=by
 have h1:=zju hx hy h
 have h2:=zju hy hx (fun e=>h e.symm)
 unfold zaI
 rw [if_neg (by unfold Rg.In at hx hy;omega)]
 exact⟨_,_,rfl,h1,h2⟩
theorem zxt{l r a b:Rg}(hl:l.Ok)(hr:r.Ok)(h:zeB l r=some (a,b)):a.Ok∧b.Ok:=by
 unfold zeB at h
 split at h
 ·cases h
 ·simp only [Option.some.injEq,Prod.mk.injEq] at h
  obtain⟨rfl,rfl⟩:=h
  unfold Rg.Ok i64 at *;dsimp only;omega
theorem zqq{l r a b:Rg}(hl:l.Ok)(hr:r.Ok)(h:zbv l r=some (a,b)):a.Ok∧b.Ok:=by
 unfold zbv at h
 split at h
 ·cases h
 ·simp only [Option.some.injEq,Prod.mk.injEq] at h
  obtain⟨rfl,rfl⟩:=h
  unfold Rg.Ok i64 at *;dsimp only;omega
theorem zxu{l r a b:Rg}(hl:l.Ok)(hr:r.Ok)(h:zeC l r=some (a,b)):a.Ok∧b.Ok:=by
 unfold zeC at h
 split at h
 ·simp only [Option.some.injEq,Prod.mk.injEq] at h
  obtain⟨rfl,rfl⟩:=h
  unfold Rg.Ok i64 at *;dsimp only;omega
 ·cases h
theorem zqr{l r a b:Rg}(hl:l.Ok)(hr:r.Ok)(h:zaI l r=some (a,b)):a.Ok∧b.Ok:=by
 unfold zaI at h
 split at h
 ·cases h
 ·rename_i hn
  simp only [Option.some.injEq,Prod.mk.injEq] at h
  obtain⟨rfl,rfl⟩:=h
  unfold Rg.Ok i64 at *
  unfold Rg.without
  refine⟨?_,?_⟩
  all_goals
   repeat' split
   all_goals(try dsimp only)
   all_goals omega
end Go.Proofs.YtfpgjkbjbbgciaaGreatDoor.Sp
