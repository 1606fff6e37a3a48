import Derived.Test.YtfpgjkbjbbgciaaGreatDoorMi18
import Derived.Test.YtfpgjkbjbbgciaaGreatDoorMi22
import Derived.Test.YtfpgjkbjbbgciaaGreatDoorMi26
set_option maxRecDepth 100000
set_option maxHeartbeats 8000000
namespace Go.Proofs.YtfpgjkbjbbgciaaGreatDoor
section
open Go.RowKit Sp
theorem zqi(A:List ByteArray)(n:Nat):(zaU A n).length≤n:=by
 induction n with
 | zero=>simp [zaU]
 | succ n ih =>
  unfold zaU
  rw [List.length_append]
  split
  ·simp;omega
  ·split <;> simp <;> omega
theorem zqj(A:List ByteArray)(n:Nat)(k:Key)(h:k∈zaU A n):∃ x∈A,∃ l,k=keyQ (say x) l:=by
 induction n with
 | zero=>simp [zaU] at h
 | succ n ih =>
  unfold zaU at h
  rw [List.mem_append] at h
  rcases h with h|h
  ·exact ih h
  ·split at h
   ·simp at h
   ·rename_i x hx
    split at h
    ·simp at h
    ·simp at h
     exact⟨x,List.mem_of_getElem? hx,_,h⟩
theorem zim(l:List ByteArray)(n k:Nat)(h:∀ y∈l,y.size≤n):(l[k]?.getD ⟨#[]⟩).size≤n:=by
 cases hk:l[k]? with
 | none=>exact Nat.zero_le _
 | some y=>exact h y (List.mem_of_getElem? hk)
theorem zqk(sh:List UInt8)(r:List ByteArray)(n k:Nat)(h:∀ y∈r,y.size≤n):(zpP sh r k).size≤n:=by
 induction k with
 | zero=>exact Nat.zero_le _
 | succ k ih =>
  unfold zpP
  split
  ·exact zim r n k h
  ·exact ih
theorem zl1(x:ByteArray):∀ y∈(say x).kept,y.size≤x.size:=by
 unfold say
 split
 ·have hw:∀ y∈zbv x,y.size≤x.size:=fun y hy=>(zhG x y hy).2
  generalize zbv x=l at hw
  unfold sayW
  split
  ·simp
  ·rename_i a r
   split
   ·exact hw
   ·split
    ·intro y hy
     simp at hy
     subst hy
     rw [ByteArray.size_extract]
     have:=hw a (by simp)
     omega
    ·exact hw
 ·simp
theorem zql(x:ByteArray):(zd5 (say x)).size≤x.size:=by
 have h:=zl1 x
 unfold zd5
 split
 ·exact zim _ _ 1 h
 ·split
  ·exact zim _ _ 0 h
  ·exact zqk _ _ _ _ (fun y hy=>h y (List.mem_of_mem_tail hy))
theorem zxT(K:List Key):¬(sayK K).1=1:=by
 unfold sayK
 cases K with
 | nil=>decide
 | cons k r =>
  dsimp only
  split
  ·unfold zem
   split
   ·exact(by decide:¬(3:Int)=1)
   ·split
    ·exact(by decide:¬(4:Int)=1)
    ·split
     ·exact(by decide:¬(5:Int)=1)
     ·exact(by decide:¬(0:Int)=1)
  ·exact(by decide:¬(2:Int)=1)
theorem zeP(A:List ByteArray)(h:∀ x∈A,(say x).ok=true)(i:Nat):zbW A i=zb6 (A.map say) 0:=by
 by_cases hi:i<A.length
 ·rw [zfP A i hi (h _ (List.getElem_mem hi))]
  exact zeP A h (i+1)
 ·exact zia A i hi
termination_by A.length-i
abbrev Z33:Obj:=.cells #[.slice none 0 0,.map none] 83
theorem zxU(s:ByteArray)(w:World)(hw:LibW w)(h4:s.size≤4000)(h3:(lines s).length≤300)(hno:¬∀ x∈lines s,(say x).ok=true):
  Calls Tryz.prog 66 #[.string s] w fun e w'=>Below w.heap.size w w'∧¬zbW (lines s) 0=(0,0)∧e=zak (zbW (lines s) 0).1 (zbW (lines s) 0).2:=by
 refine(zoI s w hw h4 h3).mono ?_
 rintro e w' ⟨hb,⟨i,h1,h2⟩|⟨_,h,_⟩⟩
 ·rw [h1]
  exact⟨hb,by simp,h2⟩
 ·exact absurd h hno
theorem zv5(s:ByteArray)(w:World)(hw:LibW w)(h4:s.size≤4000)(h3:(lines s).length≤300)(hok:∀ x∈lines s,(say x).ok=true):
  Calls Tryz.prog 66 #[.string s] w fun e w'=>Below w.heap.size w w'∧∃ v its,e=.returned v∧w'.ownsRow w.heap.size 135 8 v its.length (zav its)∧its.map It.key=zaU (lines s) (lines s).length∧its.length≤300∧∀ i∈its,ItOk i:=by
 refine(zoI s w hw h4 h3).mono ?_
 rintro e w' ⟨hb,⟨i,h1,h2⟩|⟨_,h,v,its,h5,h6,h7⟩⟩
 ·exfalso
  have h:=zeP (lines s) hok 0
  rw [h1,zeO _ hok] at h
  have:=zxT (zaU (lines s) (lines s).length)
  rw [←h] at this
  exact this rfl
 ·refine⟨hb,v,its,h5,h6,h7,?_,?_⟩
  ·have:=zqi (lines s) (lines s).length
   rw [←h7] at this
   simp at this
   omega
  ·intro i hi
   have hk:i.key∈zaU (lines s) (lines s).length:=by rw [←h7];exact List.mem_map_of_mem hi
   obtain⟨x,hx,l,hl⟩:=zqj _ _ _ hk
   have e1:i.nm=zd5 (say x):=by have:=congrArg Key.nm hl;exact this
   refine⟨?_,fun hs=>?_⟩
   ·rw [e1]
    have:=zql x
    have:=zfx s x hx
    omega
   ·have e2:i.word=zew (say x):=by have:=congrArg Key.word hl;exact this
    have e3:i.sort=zfv (say x):=by have:=congrArg Key.sort hl;exact this
    rw [e2]
    rw [hs] at e3
    unfold zew
    rw [if_neg]
    intro h5
    unfold zfv at e3
    rw [h5] at e3
    simp at e3
theorem zs1(s:ByteArray)(hs:s.size≤9223372036854775807)(h:4000<s.size∨300<(lines s).length):zbQ s (6,0):=by
 intro w hw
 have hcall:=zsm s (w.alloc Z33) hs h
 clear h
 go_enter Tryz.func44,Tryz.ntmps44
 go_wp2_with(first|(go_at_call 65;refine hcall.mono ?_;rintro e w1 ⟨rfl,hww⟩;subst hww))
 exact⟨rfl,(Below.refl _ _).alloc (Nat.le_refl _) _,.inr ⟨by simp,rfl⟩⟩
theorem zv6(s:ByteArray)(h4:s.size≤4000)(h3:(lines s).length≤300)(hno:¬∀ x∈lines s,(say x).ok=true):zbQ s (zbW (lines s) 0):=by
 intro w hw
 have hw1:LibW (w.alloc Z33):=hw.below ((Below.refl _ _).alloc (Nat.le_refl _) _)
 have hcall:=zcG s (w.alloc Z33) h4 h3
 have hcall2:=zxU s (w.alloc Z33) hw1 h4 h3 hno
 clear hno
 generalize zbW (lines s) 0=R at hcall2 ⊢
 go_enter Tryz.func44,Tryz.ntmps44
 go_wp2_with(first
  | (go_at_call 65;refine hcall.mono ?_;rintro e w1 ⟨rfl,hww⟩;subst hww)
  | (go_at_call 66;refine hcall2.mono ?_;rintro e w2 ⟨hb2,hR,rfl⟩))
 exact⟨rfl,zaZ _ _ hb2,.inr ⟨hR,rfl⟩⟩
structure Sts(s:ByteArray)(K:List Key):Prop where
 h4:s.size≤4000
 h3:(lines s).length≤300
 ok:∀ x∈lines s,(say x).ok=true
 keys:zaU (lines s) (lines s).length=K
theorem Sts.call{s:ByteArray}{K:List Key}(h:Sts s K)(w:World)(hw:LibW w):
  Calls Tryz.prog 66 #[.string s] w fun e w'=>Below w.heap.size w w'∧∃ v its,e=.returned v∧w'.ownsRow w.heap.size 135 8 v its.length (zav its)∧its.map It.key=K∧its.length≤300∧∀ i∈its,ItOk i:=by
 have:=zv5 s w hw h.h4 h.h3 h.ok
 rw [h.keys] at this
 exact this
theorem zoL{its:List It}{k:Key}{r:List Key}(h:its.map It.key=k :: r):∃ i t,its=i :: t∧i.key=k:=by
 cases its with
 | nil=>simp at h
 | cons i t=>simp at h;exact⟨i,t,rfl,h.1⟩
theorem zqm(s:ByteArray)(h:Sts s []):zbQ s (2,0):=by
 intro w hw
 have hw1:LibW (w.alloc Z33):=hw.below ((Below.refl _ _).alloc (Nat.le_refl _) _)
 have hcall:=zcG s (w.alloc Z33) h.h4 h.h3
 have hcall2:=h.call (w.alloc Z33) hw1
 clear h
 go_enter Tryz.func44,Tryz.ntmps44
 go_wp2_with(first
  | (go_at_call 65;refine hcall.mono ?_;rintro e w1 ⟨rfl,hww⟩;subst hww)
  | (go_at_call 66;refine hcall2.mono ?_;rintro e w2 ⟨hb2,v,its,rfl,hown,hk,hl,hnm⟩;obtain rfl:its=[]:=by simpa using hk)
  | (go_at_call 67;refine(znp w2 _ v hown).mono ?_;rintro e w3 ⟨rfl,hww⟩;subst hww))
 exact⟨rfl,zaZ _ _ hb2,.inr ⟨by simp,rfl⟩⟩
theorem zns(s:ByteArray)(k:Key)(r:List Key)(h:Sts s (k :: r))(hs:¬k.sort=0):zbQ s (2,k.line):=by
 intro w hw
 have hw1:LibW (w.alloc Z33):=hw.below ((Below.refl _ _).alloc (Nat.le_refl _) _)
 have hcall:=zcG s (w.alloc Z33) h.h4 h.h3
 have hcall2:=(h.call (w.alloc Z33) hw1).mono (R':=fun e w'=>Below (w.alloc Z33).heap.size (w.alloc Z33) w'∧∃ v i t,e=.returned v∧w'.ownsRow (w.alloc Z33).heap.size 135 8 v (i :: t).length (zav (i :: t))∧t.length≤4096∧¬i.sort=0∧i.line=k.line) (by
  rintro e w' ⟨hb,v,its,h1,h2,h3,h4,h5⟩
  obtain⟨i,t,rfl,rfl⟩:=zoL h3
  exact⟨hb,v,i,t,h1,h2,by simp at h4;omega,hs,rfl⟩)
 clear h hs
 go_enter Tryz.func44,Tryz.ntmps44
 go_wp2_with(first
  | (go_at_call 65;refine hcall.mono ?_;rintro e w1 ⟨rfl,hww⟩;subst hww)
  | (go_at_call 66;refine hcall2.mono ?_;rintro e w2 ⟨hb2,v,i,t,rfl,hown,hl,hns,hline⟩)
  | (go_at_call 67;refine(zqf w2 _ v i t hown hl hns).mono ?_;rintro e w3 ⟨rfl,hww⟩;subst hww))
 exact⟨rfl,zaZ _ _ hb2,.inr ⟨by simp,by simp⟩⟩
theorem Sts.begins{s:ByteArray}{k:Key}{r:List Key}(h:Sts s (k :: r))(hs:k.sort=0)(w:World)(hw:LibW w):
  Calls Tryz.prog 66 #[.string s] w fun e w'=>Below w.heap.size w w'∧∃ v i t,e=.returned v∧w'.ownsRow w.heap.size 135 8 v (i :: t).length (zav (i :: t))∧(i :: t).map It.key=k :: r∧(i :: t).length≤300∧(∀ j∈i :: t,ItOk j)∧Hid (i.sort=0):=by
 refine(h.call w hw).mono ?_
 rintro e w' ⟨hb,v,its,h1,h2,h3,h4,h5⟩
 obtain⟨i,t,rfl,rfl⟩:=zoL h3
 exact⟨hb,v,i,t,h1,h2,h3,h4,h5,hs⟩
theorem zhw(w:World)(B:Nat)(v:Value)(i:It)(t:List It)(h:w.ownsRow B 135 8 v (i :: t).length (zav (i :: t)))(hl:(i :: t).length≤300)(hs:Hid (i.sort=0)):
  Calls Tryz.prog 67 #[v] w fun e w'=>e=.returned (.tuple #[])∧w'=w:=znq w B v i t h (by simp at hl;omega) hs.out
theorem zxV(w:World)(B:Nat)(v:Value)(i:It)(t:List It)(K:List Key)(h:w.ownsRow B 135 8 v (i :: t).length (zav (i :: t)))(hk:(i :: t).map It.key=K)(hl:(i :: t).length≤300)(hnm:∀ j∈i :: t,ItOk j)(hs:Hid (i.sort=0))(l:Int)(htw:Hid (zaR [] K=some l)):
  Calls Tryz.prog 68 #[v] w fun e w'=>Below w.heap.size w w'∧e=zak 3 l:=by
 have:=zl0 w B v (i :: t) h hl hnm (by simp) hs
 rw [hk] at this
 refine this.mono ?_
 rintro e w' ⟨hb,⟨l',h1,h2⟩|⟨h1,_⟩⟩
 ·rw [htw.out] at h1
  cases h1
  exact⟨hb,h2⟩
 ·rw [htw.out] at h1;cases h1
theorem znt(w:World)(B:Nat)(v:Value)(i:It)(t:List It)(K:List Key)(h:w.ownsRow B 135 8 v (i :: t).length (zav (i :: t)))(hk:(i :: t).map It.key=K)(hl:(i :: t).length≤300)(hnm:∀ j∈i :: t,ItOk j)(hs:Hid (i.sort=0))(htw:Hid (zaR [] K=none))(G:List Fn)(hG:Hid (K.foldl addK []=G))(hG0:0<G.length):
  Calls Tryz.prog 68 #[v] w fun e w'=>Below w.heap.size w w'∧∃ pm ao n cap F,e=.returned (.agg #[.slice ao n cap,.map (some pm)])∧PIn w.heap.size w' pm (.slice ao n cap) F∧Hid (F.map FnM.fn=G)∧0<F.length∧F.length≤300∧(∀ f∈F,f.its.length≤300∧∀ i∈f.its,ItOk i):=by
 have:=zl0 w B v (i :: t) h hl hnm (by simp) hs
 rw [hk] at this
 have hKl:K.length≤300:=by rw [←hk];simpa using hl
 refine this.mono ?_
 rintro e w' ⟨hb,⟨l',h1,h2⟩|⟨_,pm,v',F,h1,h2,h3,h4,h5⟩⟩
 ·rw [htw.out] at h1;cases h1
 ·rw [hG.out] at h3
  have hFG:F.length=G.length:=by rw [←h3];simp
  obtain⟨ao,cap,rfl⟩:=zbb h2.row
  exact⟨hb,pm,ao,_,cap,F,h1,h2,h3,by omega,by omega,fun f hf=>⟨by have:=(h5 f hf).1;omega,(h5 f hf).2⟩⟩
theorem znu(s:ByteArray)(k:Key)(r:List Key)(h:Sts s (k :: r))(hs:k.sort=0)(l:Int)(ht:zaR [] (k :: r)=some l):zbQ s (3,l):=by
 intro w hw
 have hw1:LibW (w.alloc Z33):=hw.below ((Below.refl _ _).alloc (Nat.le_refl _) _)
 have hcall:=zcG s (w.alloc Z33) h.h4 h.h3
 have hcall2:=h.begins hs (w.alloc Z33) hw1
 have HT:Hid (zaR [] (k :: r)=some l):=ht
 clear h hs ht
 generalize k :: r=K at hcall2 HT
 go_enter Tryz.func44,Tryz.ntmps44
 go_wp2_with(first
  | (go_at_call 65;refine hcall.mono ?_;rintro e w1 ⟨rfl,hww⟩;subst hww)
  | (go_at_call 66;refine hcall2.mono ?_;rintro e w2 ⟨hb2,v,i,t,rfl,hown,hk,hl,hnm,hns⟩)
  | (go_at_call 67;refine(zhw w2 _ v i t hown hl hns).mono ?_;rintro e w3 ⟨rfl,hww⟩;have h2:=hww.symm;subst h2)
  | (go_at_call 68;refine(zxV _ _ v i t K hown hk hl hnm hns l HT).mono ?_;rintro e w4 ⟨hb4,rfl⟩))
 exact⟨rfl,(zaZ _ _ hb2).trans (hb4.mono (zaZ _ _ hb2).size),.inr ⟨by simp,rfl⟩⟩
end
section
open Sp
structure Good(L:List Said):Prop where
 wf:∀ k (h:k<L.length),Wf L[k]
 form:∀ k (h:k<L.length),L[k].kind=105→Form L[k].kept
 size:∀ k (h:k<L.length),∀ x∈L[k].kept,x.size≤4000
 head:∃ i,∃ h:i<L.length,L[i].kind=102∧∀ j (h':j<L.length),j<i→L[j].kind=0
 twice:∀ k,k<L.length→zfh L k=false
 miss:∀ k,k<L.length→zco L k=false
 endl:∀ k,k<L.length→zdy L k=false
 few:L.length≤300
theorem zfW(L:List Said)(q j:Nat)(c:Int × Int)(h:pass L q j c=(0,0)):c=(0,0)∧∀ k,j≤k→k<L.length→badB L q k=false:=by
 by_cases hj:j<L.length
 ·cases hb:badB L q j with
  | true =>
   rw [zfO L q j c hj hb] at h
   have:=congrArg Prod.fst h
   simp at this
   omega
  | false =>
   rw [zc3 L q j c hj hb] at h
   obtain⟨h1,h2⟩:=zfW L q (j+1) c h
   refine⟨h1,fun k hk hl=>?_⟩
   by_cases e:k=j
   ·subst e;exact hb
   ·exact h2 k (by omega) hl
 ·rw [zfN L q j c hj] at h
  exact⟨h,fun k hk hl=>by omega⟩
termination_by L.length-j
theorem zjC(L:List Said)(i:Nat)(h:zb6 L i=(0,0)):(∃ j,∃ hj:j<L.length,i≤j∧L[j].kind=102∧∀ k (hk:k<L.length),i≤k→k<j→L[k].kind=0)∧tail L 0=(0,0):=by
 by_cases hi:i<L.length
 ·by_cases h0:L[i].kind=0
  ·rw [zj2 L i hi h0] at h
   obtain⟨⟨j,hj,h1,h2,h3⟩,h4⟩:=zjC L (i+1) h
   refine⟨⟨j,hj,by omega,h2,fun k hk ha hb=>?_⟩,h4⟩
   by_cases e:k=i
   ·subst e;exact h0
   ·exact h3 k hk (by omega) hb
  ·by_cases h2:L[i].kind=102
   ·rw [zhZ L i hi h0 h2] at h
    exact⟨⟨i,hi,Nat.le_refl _,h2,fun k hk ha hb=>by omega⟩,h⟩
   ·rw [zlc L i hi h0 h2] at h
    have:=congrArg Prod.fst h
    simp at this
 ·rw [zhY L i hi] at h
  have:=congrArg Prod.fst h
  simp at this
termination_by L.length-i
theorem zs2(s:ByteArray)(h:zcg s=(0,0)):Good ((lines s).map say):=by
 unfold zcg at h
 split at h
 ·have:=congrArg Prod.fst h;simp at this
 ·rename_i hfar
  have hok:∀ x∈lines s,(say x).ok=true:=by
   by_cases hok:∀ x∈lines s,(say x).ok=true
   ·exact hok
   ·exfalso
    have key:∀ i,(∃ j,∃ hj:j<(lines s).length,i≤j∧(say (lines s)[j]).ok=false)→¬zbW (lines s) i=(0,0):=by
     intro i
     intro⟨j,hj,hij,hb⟩
     have hil:i≤j:=hij
     clear hij
     induction hd:j-i generalizing i with
     | zero =>
      obtain rfl:j=i:=by omega
      rw [zfQ _ j hj hb]
      intro e
      have:=congrArg Prod.fst e
      simp at this
     | succ d ih =>
      cases hi:(say ((lines s)[i]'(by omega))).ok with
      | false =>
       rw [zfQ _ i (by omega) hi]
       intro e
       have:=congrArg Prod.fst e
       simp at this
      | true =>
       rw [zfP _ i (by omega) hi]
       exact ih (i+1) (by omega) (by omega)
    have:∃ x∈lines s,¬(say x).ok=true:=by
     refine Classical.byContradiction fun hn=>hok fun x hx=>?_
     refine Classical.byContradiction fun hx'=>hn ⟨x,hx,hx'⟩
    obtain⟨x,hx,hb⟩:=this
    obtain⟨j,hj,rfl⟩:=List.mem_iff_getElem.1 hx
    exact key 0 ⟨j,hj,by omega,by simpa using hb⟩ h
  rw [zeP _ hok 0] at h
  obtain⟨⟨i,hi,_,h2,h3⟩,ht⟩:=zjC _ 0 h
  have e0:tail ((lines s).map say) 0=pass ((lines s).map say) 0 0 (pass ((lines s).map say) 1 0 (pass ((lines s).map say) 2 0 (0,0))):=rfl
  rw [e0] at ht
  obtain⟨t1,p0⟩:=zfW _ _ _ _ ht
  obtain⟨t2,p1⟩:=zfW _ _ _ _ t1
  obtain⟨_,p2⟩:=zfW _ _ _ _ t2
  refine⟨fun k hk=>?_,fun k hk h5=>?_,fun k hk x hx=>?_,⟨i,hi,h2,fun j hj hji=>h3 j hj (by omega) hji⟩,fun k hk=>p0 k (by omega) hk,fun k hk=>p1 k (by omega) hk,fun k hk=>p2 k (by omega) hk,by simp;omega⟩
  ·rw [List.getElem_map];exact zxq _ (hok _ (List.getElem_mem _))
  ·rw [List.getElem_map] at h5 ⊢;exact zxX _ (hok _ (List.getElem_mem _)) h5
  ·rw [List.getElem_map] at hx
   have h4:=zl1 _ x hx
   have h5:=zfx s ((lines s)[k]'(by simpa using hk)) (List.getElem_mem _)
   omega
def zin(L:List Said)(z:Int):Prop:=∃ j:Nat,z=(j:Int)∧∃ h:j<L.length,L[j].kind=105
theorem zhx(L:List Said)(k:Nat)(h:zfM L k false=true):zin L (zau L k):=by
 by_cases hk:k<L.length
 ·by_cases h2:L[k].kind=102
  ·rw [zmW L k _ hk h2] at h;cases h
  ·by_cases h5:L[k].kind=105
   ·rw [zdz L k hk h5];exact⟨k,rfl,hk,h5⟩
   ·rw [zdm L k hk h2 h5]
    rw [zeL L k _ hk h2,if_neg h5] at h
    refine zhx L (k+1) ?_
    split at h <;> exact h
 ·rw [zhP L k _ hk] at h;cases h
termination_by L.length-k
theorem Good.live{L:List Said}(G:Good L)(k:Nat)(hk:k<L.length)(h1:¬L[k].kind=0)(h2:¬L[k].kind=102):∃ e,zfM L k e=true:=by
 obtain⟨i,hi,h3,h4⟩:=G.head
 have hik:i<k:=by
  by_cases e:k=i
  ·subst e;exact absurd h3 h2
  ·by_cases e2:k<i
   ·exact absurd (h4 k hk e2) h1
   ·omega
 have begin_:∀ j (hj:j<L.length),L[j].kind=102→zfM L (j+1) false=true:=fun j hj h=>by
  have:=G.endl j hj
  rw [zl2 L j hj (by simp [h])] at this
  simpa using this
 have key:∀ d j,j=i+1+d→j≤L.length→∃ e,zfM L j e=true:=by
  intro d
  induction d with
  | zero=>intro j hj _;subst hj;exact⟨false,begin_ i hi h3⟩
  | succ d ih =>
   intro j hj hl
   obtain⟨e,he⟩:=ih (j-1) (by omega) (by omega)
   have hj1:j-1<L.length:=by omega
   obtain⟨p,rfl⟩:∃ p,j=p+1:=⟨j-1,by omega⟩
   simp only [Nat.add_sub_cancel] at he hj1
   by_cases hf:L[p].kind=102
   ·exact⟨false,begin_ p hj1 hf⟩
   ·rw [zeL L p e hj1 hf] at he;exact⟨_,he⟩
 exact key (k-i-1) k (by omega) (by omega)
theorem Good.lab{L:List Said}(G:Good L)(j:Nat)(hj:j<L.length)(h8:L[j].kind=108):zin L (zau L j):=by
 obtain⟨e,he⟩:=G.live j hj (by omega) (by omega)
 rw [zeL L j e hj (by omega),if_pos h8] at he
 rw [zdm L j hj (by omega) (by omega)]
 exact zhx L _ he
theorem Good.fn{L:List Said}(G:Good L)(j:Nat)(hj:j<L.length)(h2:L[j].kind=102):zin L (zau L (j+1)):=by
 have:=G.endl j hj
 rw [zl2 L j hj (by simp [h2])] at this
 exact zhx L _ (by simpa using this)
theorem Good.next{L:List Said}(G:Good L)(k:Nat)(hk:k<L.length)(h5:L[k].kind=105)(he:ends (L[k].word 0)=false):zin L (zau L (k+1)):=by
 obtain⟨e,h⟩:=G.live k hk (by omega) (by omega)
 rw [zeL L k e hk (by omega),if_neg (by omega),if_pos h5,he] at h
 exact zhx L _ h
end
section
open Go.RowKit Sp
theorem zqp(i:Ins)(next:Int)(m:Mc)(h:m.fin=0):
  (((exec i next m).fin=0∧(exec i next m).steps=m.steps+1)∨(((exec i next m).fin=1∨(exec i next m).fin=2)∧(exec i next m).at'=-1∧(exec i next m).steps=m.steps+1)∨(((exec i next m).fin=3∨(exec i next m).fin=4)∧(exec i next m).at'=m.at'∧(exec i next m).steps=m.steps))∧(exec i next m).inp.length≤m.inp.length:=by
 cases i with
 | load r s =>
  simp only [exec]
  split
  ·exact⟨.inr (.inr ⟨.inl rfl,rfl,rfl⟩),Nat.le_refl _⟩
  ·exact⟨.inl ⟨h,rfl⟩,Nat.le_refl _⟩
 | store r s =>
  simp only [exec]
  split
  ·exact⟨.inr (.inr ⟨.inl rfl,rfl,rfl⟩),Nat.le_refl _⟩
  ·exact⟨.inl ⟨h,rfl⟩,Nat.le_refl _⟩
 | call to =>
  simp only [exec]
  split
  ·exact⟨.inr (.inr ⟨.inr rfl,rfl,rfl⟩),Nat.le_refl _⟩
  ·exact⟨.inl ⟨h,rfl⟩,Nat.le_refl _⟩
 | back =>
  simp only [exec]
  split
  ·exact⟨.inr (.inl ⟨.inr rfl,rfl,rfl⟩),Nat.le_refl _⟩
  ·exact⟨.inl ⟨h,rfl⟩,Nat.le_refl _⟩
 | stop=>exact⟨.inr (.inl ⟨.inl rfl,rfl,rfl⟩),Nat.le_refl _⟩
 | read r =>
  refine⟨.inl ⟨h,rfl⟩,?_⟩
  show m.inp.tail.length≤_
  simp
 | set r k=>exact⟨.inl ⟨h,rfl⟩,Nat.le_refl _⟩
 | mov r s=>exact⟨.inl ⟨h,rfl⟩,Nat.le_refl _⟩
 | alu o r s t=>exact⟨.inl ⟨h,rfl⟩,Nat.le_refl _⟩
 | inc r k=>exact⟨.inl ⟨h,rfl⟩,Nat.le_refl _⟩
 | write r=>exact⟨.inl ⟨h,rfl⟩,Nat.le_refl _⟩
 | jump to=>exact⟨.inl ⟨h,rfl⟩,Nat.le_refl _⟩
 | less r s to=>exact⟨.inl ⟨h,rfl⟩,Nat.le_refl _⟩
 | same r s to=>exact⟨.inl ⟨h,rfl⟩,Nat.le_refl _⟩
theorem zw2(l r:Rg)(w:World):Calls Tryz.prog 276 #[rv l,rv r] w (zd7 w l r (ze7 l r)):=by
 have hb1:=zca (max l.lo r.lo) (min l.hi r.hi)
 by_cases h:max l.lo r.lo≤min l.hi r.hi
 ·have e0:ze7 l r=some (⟨max l.lo r.lo,min l.hi r.hi⟩,⟨max l.lo r.lo,min l.hi r.hi⟩):=by unfold ze7;rw [if_pos h]
  rw [e0]
  have H1:=zgc w (.cells #[.int .i64 l.lo,.int .i64 l.hi] 213) (.cells #[.int .i64 r.lo,.int .i64 r.hi] 213) (.cells #[.int .i64 0,.int .i64 0] 213) (.cells #[.int .i64 0,.int .i64 0] 213) (max l.lo r.lo) (min l.hi r.hi)
  go_enter Tryz.func276,Tryz.ntmps276
  go_wp2
  go_region_held3 (fun W=>W.cell? ⟨w.heap.size+1+1+1+1,0,none⟩=some (.int .i64 (max l.lo r.lo))∧W.cell? ⟨w.heap.size+1+1+1+1,1,none⟩=some (.int .i64 (min l.hi r.hi)))
   (first|exact zgc _ _ _ _ _ _ _|go_keep)
   (fail)
  all_goals go_wp2
  all_goals exact zd8 (l:=⟨max l.lo r.lo,min l.hi r.hi⟩) (r:=⟨max l.lo r.lo,min l.hi r.hi⟩) Tryz.results276 rfl rfl rfl rfl (za3 box1 (za6 _ _ _ _ _ _ 0)) (za3 box1 (za6 _ _ _ _ _ _ 1)) (za3 box1 (zaz _ _ _ _ _ _ 0)) (za3 box1 (zaz _ _ _ _ _ _ 1)) ⟨(zb1.alloc (by simp;omega) _).drew,rfl⟩
 ·have e0:ze7 l r=none:=by unfold ze7;rw [if_neg h]
  have hdec:decide (max l.lo r.lo≤min l.hi r.hi)=false:=by simpa using h
  rw [e0]
  have H1:=zgc w (.cells #[.int .i64 l.lo,.int .i64 l.hi] 213) (.cells #[.int .i64 r.lo,.int .i64 r.hi] 213) (.cells #[.int .i64 0,.int .i64 0] 213) (.cells #[.int .i64 0,.int .i64 0] 213) (max l.lo r.lo) (min l.hi r.hi)
  go_enter Tryz.func276,Tryz.ntmps276
  go_wp2
  go_region_held3 (fun W=>W.cell? ⟨w.heap.size+1+1+1+1,0,none⟩=some (.int .i64 (max l.lo r.lo))∧W.cell? ⟨w.heap.size+1+1+1+1,1,none⟩=some (.int .i64 (min l.hi r.hi)))
   (first|exact zgc _ _ _ _ _ _ _|go_keep)
   (fail)
  all_goals go_wp2
  all_goals exact zd8 (l:=⟨max l.lo r.lo,min l.hi r.hi⟩) (r:=⟨max l.lo r.lo,min l.hi r.hi⟩) Tryz.results276 rfl rfl rfl rfl (za3 box1 (za6 _ _ _ _ _ _ 0)) (za3 box1 (za6 _ _ _ _ _ _ 1)) (za3 box1 (zaz _ _ _ _ _ _ 0)) (za3 box1 (zaz _ _ _ _ _ _ 1)) ⟨(zb1.alloc (by simp;omega) _).drew,_,_,by first|rfl|rw [hdec]⟩
end
section
open Sp
theorem zs3(L:List Said)(k:Nat)(q:Said)(x1:ByteArray)(h:q.kept=[⟨#[106,117,109,112]⟩,x1]):insQ L k q=.jump (zdV L k x1):=by
 obtain⟨kd,kp,ok⟩:=q
 cases h
 kernel_rfl
theorem zs4(L:List Said)(k:Nat)(q:Said)(x1 x2 x3:ByteArray)(h:q.kept=[⟨#[108,101,115,115]⟩,x1,x2,x3]):insQ L k q=.less (regN x1) (regN x2) (zdV L k x3):=by
 obtain⟨kd,kp,ok⟩:=q
 cases h
 kernel_rfl
theorem zs5(L:List Said)(k:Nat)(q:Said)(x1 x2 x3:ByteArray)(h:q.kept=[⟨#[115,97,109,101]⟩,x1,x2,x3]):insQ L k q=.same (regN x1) (regN x2) (zdV L k x3):=by
 obtain⟨kd,kp,ok⟩:=q
 cases h
 kernel_rfl
theorem zs6(L:List Said)(k:Nat)(q:Said)(x1:ByteArray)(h:q.kept=[⟨#[99,97,108,108]⟩,x1]):insQ L k q=.call (fnTo L x1):=by
 obtain⟨kd,kp,ok⟩:=q
 cases h
 kernel_rfl
theorem zs7(L:List Said)(k:Nat)(q:Said)(h:q.kept=[⟨#[98,97,99,107]⟩]):insQ L k q=.back:=by
 obtain⟨kd,kp,ok⟩:=q
 cases h
 kernel_rfl
theorem zs8(L:List Said)(k:Nat)(q:Said)(h:q.kept=[⟨#[115,116,111,112]⟩]):insQ L k q=.stop:=by
 obtain⟨kd,kp,ok⟩:=q
 cases h
 kernel_rfl
theorem zv7(L:List Said)(k:Nat)(q:Said)(x1 x2:ByteArray)(h:q.kept=[⟨#[115,101,116]⟩,x1,x2]):insQ L k q=.set (regN x1) (zbc x2).1:=by
 obtain⟨kd,kp,ok⟩:=q
 cases h
 kernel_rfl
theorem zv8(L:List Said)(k:Nat)(q:Said)(x1 x2:ByteArray)(h:q.kept=[⟨#[109,111,118]⟩,x1,x2]):insQ L k q=.mov (regN x1) (regN x2):=by
 obtain⟨kd,kp,ok⟩:=q
 cases h
 kernel_rfl
theorem zv9(L:List Said)(k:Nat)(q:Said)(x1 x2 x3:ByteArray)(h:q.kept=[⟨#[97,100,100]⟩,x1,x2,x3]):insQ L k q=.alu 0 (regN x1) (regN x2) (regN x3):=by
 obtain⟨kd,kp,ok⟩:=q
 cases h
 kernel_rfl
theorem zvA(L:List Said)(k:Nat)(q:Said)(x1 x2 x3:ByteArray)(h:q.kept=[⟨#[115,117,98]⟩,x1,x2,x3]):insQ L k q=.alu 1 (regN x1) (regN x2) (regN x3):=by
 obtain⟨kd,kp,ok⟩:=q
 cases h
 kernel_rfl
theorem zvB(L:List Said)(k:Nat)(q:Said)(x1 x2 x3:ByteArray)(h:q.kept=[⟨#[109,117,108]⟩,x1,x2,x3]):insQ L k q=.alu 2 (regN x1) (regN x2) (regN x3):=by
 obtain⟨kd,kp,ok⟩:=q
 cases h
 kernel_rfl
theorem zvC(L:List Said)(k:Nat)(q:Said)(x1 x2:ByteArray)(h:q.kept=[⟨#[105,110,99]⟩,x1,x2]):insQ L k q=.inc (regN x1) (zbc x2).1:=by
 obtain⟨kd,kp,ok⟩:=q
 cases h
 kernel_rfl
theorem zs9(L:List Said)(k:Nat)(q:Said)(x1 x2:ByteArray)(h:q.kept=[⟨#[108,111,97,100]⟩,x1,x2]):insQ L k q=.load (regN x1) (regN x2):=by
 obtain⟨kd,kp,ok⟩:=q
 cases h
 kernel_rfl
theorem zqn(L:List Said)(k:Nat)(q:Said)(x1 x2:ByteArray)(h:q.kept=[⟨#[115,116,111,114,101]⟩,x1,x2]):insQ L k q=.store (regN x1) (regN x2):=by
 obtain⟨kd,kp,ok⟩:=q
 cases h
 kernel_rfl
theorem zsA(L:List Said)(k:Nat)(q:Said)(x1:ByteArray)(h:q.kept=[⟨#[114,101,97,100]⟩,x1]):insQ L k q=.read (regN x1):=by
 obtain⟨kd,kp,ok⟩:=q
 cases h
 kernel_rfl
theorem zqo(L:List Said)(k:Nat)(q:Said)(x1:ByteArray)(h:q.kept=[⟨#[119,114,105,116,101]⟩,x1]):insQ L k q=.write (regN x1):=by
 obtain⟨kd,kp,ok⟩:=q
 cases h
 kernel_rfl
end
section
open Go.RowKit Sp
theorem za9{w w':World}{B b o n:Nat}(h:w.there b o n)(hb:Below B w w')(hB:b<B):w'.there b o n:=fun j hj=>by
 obtain⟨h1,h2⟩:=h j hj
 exact⟨by rw [hb.cell (p:=⟨b,o+j,none⟩) hB];exact h1,by rw [World.frozen?_of_block (w:=w) (hb.block b hB)];exact h2⟩
theorem zcK(ds:List Value)(hl:ds.length=30):(Tryz.prog.info? 34).map (·.size)=some ds.toArray.size:=by rw [show ds.toArray.size=30 by simp [hl]];exact Tryz.info34
theorem zlm(w:World)(a:Value):∀ j u,[a][j]?=some u→(w.alloc (.cells #[a] 3)).cell? ((⟨w.heap.size,0,none⟩:Addr).add j)=some u:=by
 intro j u hj
 have h1:=World.cell?_alloc_new (w:=w) #[a] 3 j
 have h2:(⟨w.heap.size,0,none⟩:Addr).add j=⟨w.heap.size,j,none⟩:=by simp [Addr.add];omega
 rw [h2,h1]
 rw [←List.getElem?_toArray] at hj
 exact hj
theorem zrf{w:World}{b cap:Nat}{ao:Option Addr}{k:Kn}(h:KnM w b (.slice ao k.behind.length cap) k)(z:Int)(hlen:k.behind.length=15):
  Calls Tryz.prog 282 #[.pointer (some ⟨b,0,none⟩),.int .i64 z] w fun e w'=>e=zak 8 0∧w'=w:=by
 have hfr:=zf6 h (by omega)
 rw [hlen] at hfr
 go_enter Tryz.func282,Tryz.ntmps282
 go_wp2_with(first
  | (go_at_call 136;(with_reducible refine hfr.mono ?_);rintro e wx ⟨rfl,hww⟩;have hw2:=hww.symm;subst hw2))
 all_goals go_wp2
 exact⟨rfl,rfl,rfl,rfl,rfl⟩
theorem zy0{w:World}{b g m cap:Nat}{k:Kn}{z:Int}(h:KnM w b (.slice (some ⟨g,0,none⟩) (m+1) cap) k)(hm:m≤15)(hc:m+1≤cap)(_hc2:cap≤maxLen)(hz:w.cell? ⟨g,m,none⟩=some (.int .i64 z))(l:List Int)(h0:0≤k.steps)(h1:k.steps≤100000):Calls Tryz.prog 287 #[.pointer (some ⟨b,0,none⟩)] w (zaQ w b (.slice (some ⟨g,0,none⟩) m cap) ({ k with behind:=l }.goTo z)):=by
 have c:=h.cS
 have n:=h.cN
 have d:=h.cB
 have f1:=h.fz 50
 have f2:=h.fz 48
 have f3:=h.fz 49
 have hlt:=h.lt
 unfold maxLen at _hc2
 have K:=h.putB (.slice (some ⟨g,0,none⟩) m cap) l
 go_enter Tryz.func287,Tryz.ntmps287
 go_wp2
 go_ret
 obtain⟨g2,e2,l2,c2,k2,gr⟩:=zpq K z
 rw [World.size_setCell] at e2 l2
 exact⟨g2,e2,l2,c2,k2,zae (zah (Below.refl _ _)) gr⟩
theorem zrg{w:World}{b cap:Nat}{ao:Option Addr}{k:Kn}{x:Int}{l:List Int}(h:KnM w b (.slice ao k.behind.length cap) k)(B:BhM w ao cap k.behind)(hk:k.behind=l++[x])(ap:∀ a,ao=some a→¬a.block=b)(h0:0≤k.steps)(h1:k.steps≤100000):
  Calls Tryz.prog 287 #[.pointer (some ⟨b,0,none⟩)] w fun e w'=>zaQ w b (.slice ao l.length cap) ({ k with behind:=l }.goTo x) e w'∧BhM w' ao cap l:=by
 have hl:k.behind.length=l.length+1:=by rw [hk];simp
 cases ao with
 | none=>obtain⟨e,_⟩:=B.nil rfl;rw [e] at hl;simp at hl
 | some a =>
  obtain⟨g,rfl⟩:=B.at0 a rfl
  have b1:=B.len
  have b2:=B.le
  rw [hl] at h b1 b2
  refine(zy0 h (by omega) b2 B.top ((B.cell g rfl).2 l.length x (by rw [hk];simp)) l h0 h1).mono ?_
  rintro e w' hw
  refine⟨hw,?_⟩
  obtain⟨g2,e2,l2,c2,k2,gr⟩:=hw
  have B2:BhM w' (some ⟨g,0,none⟩) cap k.behind:=B.grown gr ap
  exact⟨by omega,by omega,B2.top,fun e=>(by cases e),B2.at0,fun g' e=>⟨(B2.cell g' e).1,fun i v hv=>(B2.cell g' e).2 i v (by rw [hk,List.getElem?_append_left (List.getElem?_eq_some_iff.1 hv).1];exact hv)⟩⟩
def InC(N:Nat)(z:Int):Prop:=∃ k:Nat,z=(k:Int)∧k<N
def zsB(N p:Nat):Ins→Prop
 | .jump to=>InC N to
 | .less _ _ to=>InC N to∧p+1<N
 | .same _ _ to=>InC N to∧p+1<N
 | .call to=>InC N to∧p+1<N
 | .back=>True
 | .stop=>True
 | _=>p+1<N
structure InvD(N:Nat)(m:Mc):Prop where
 at_:InC N m.at'
 backs:∀ z∈m.backs,InC N z
 frames:m.frames=if m.fin=2 then 0 else(m.backs.length:Int)+1
 few:m.backs.length≤15
 peak:∃ p:Nat,m.peak=(p:Int)∧p≤16
 steps:0≤m.steps
 out:(m.out.length:Int)≤m.steps
theorem InvD.inv{N:Nat}{m:Mc}(I:InvD N m)(hN:N≤300)(h:m.fin=0):InvC m:=by
 obtain⟨k,hk,hlt⟩:=I.at_
 have hf:=I.frames
 rw [if_neg (by omega)] at hf
 exact⟨by omega,by omega,hf,I.few,I.peak,I.steps,I.out⟩
theorem InvD.goes{N:Nat}{m m1:Mc}{z:Int}(I:InvD N m)(h:InC N z)(e1:m1.backs=m.backs)(e2:m1.frames=m.frames)(e3:m1.peak=m.peak)(e4:m1.steps=m.steps)(e5:m1.out.length≤m.out.length+1)(e6:m1.fin=m.fin):InvD N (m1.goes z):=by
 have hs:=I.steps
 have ho:=I.out
 refine⟨h,?_,?_,?_,?_,?_,?_⟩
 ·show ∀ z∈m1.backs,_;rw [e1];exact I.backs
 ·show m1.frames=if m1.fin=2 then 0 else(m1.backs.length:Int)+1;rw [e1,e2,e6];exact I.frames
 ·show m1.backs.length≤15;rw [e1];exact I.few
 ·show ∃ p:Nat,m1.peak=(p:Int)∧p≤16;rw [e3];exact I.peak
 ·show 0≤m1.steps+1;omega
 ·show(m1.out.length:Int)≤m1.steps+1;omega
theorem InvD.fault{N:Nat}{m:Mc}{x:Int}(I:InvD N m)(h:m.fin=0)(hx:¬x=2):InvD N { m with fin:=x }:=by
 have hf:=I.frames
 rw [if_neg (by omega)] at hf
 exact⟨I.at_,I.backs,by show m.frames=if x=2 then 0 else(m.backs.length:Int)+1;rw [if_neg hx];exact hf,I.few,I.peak,I.steps,I.out⟩
theorem InvD.step{N p:Nat}{m:Mc}{i:Ins}(I:InvD N m)(hfin:m.fin=0)(hp:m.at'=(p:Int))(hl:zsB N p i):InvD N (zaN i m):=by
 have hnx:p+1<N→InC N (m.at'+1):=fun h=>⟨p+1,by omega,h⟩
 have hf:=I.frames
 rw [if_neg (by omega)] at hf
 cases i with
 | set r k=>rw [zag (.inl rfl) hfin];exact I.goes (hnx hl) rfl rfl rfl rfl (Nat.le_succ _) rfl
 | mov r s=>rw [zag (.inl rfl) hfin];exact I.goes (hnx hl) rfl rfl rfl rfl (Nat.le_succ _) rfl
 | alu o r s t=>rw [zag (.inl rfl) hfin];exact I.goes (hnx hl) rfl rfl rfl rfl (Nat.le_succ _) rfl
 | inc r k=>rw [zag (.inl rfl) hfin];exact I.goes (hnx hl) rfl rfl rfl rfl (Nat.le_succ _) rfl
 | load r s =>
  by_cases hn:m.regs s<0∨15<m.regs s
  ·have e1:exec (.load r s) (m.at'+1) m={ m with fin:=3 }:=if_pos hn
   rw [zag (.inr (by rw [e1];show(2:Int)<3;decide)) hfin,e1]
   exact I.fault hfin (by decide)
  ·have e1:exec (.load r s) (m.at'+1) m={ m with regs:=upd m.regs r (m.cells (m.regs s).toNat) }.goes (m.at'+1):=if_neg hn
   rw [zag (.inl (by rw [e1];rfl)) hfin,e1]
   exact I.goes (hnx hl) rfl rfl rfl rfl (Nat.le_succ _) rfl
 | store r s =>
  by_cases hn:m.regs r<0∨15<m.regs r
  ·have e1:exec (.store r s) (m.at'+1) m={ m with fin:=3 }:=if_pos hn
   rw [zag (.inr (by rw [e1];show(2:Int)<3;decide)) hfin,e1]
   exact I.fault hfin (by decide)
  ·have e1:exec (.store r s) (m.at'+1) m={ m with cells:=upd m.cells (m.regs r).toNat (m.regs s) }.goes (m.at'+1):=if_neg hn
   rw [zag (.inl (by rw [e1];rfl)) hfin,e1]
   exact I.goes (hnx hl) rfl rfl rfl rfl (Nat.le_succ _) rfl
 | read r=>rw [zag (.inl rfl) hfin];exact I.goes (hnx hl) rfl rfl rfl rfl (Nat.le_succ _) rfl
 | write r=>rw [zag (.inl rfl) hfin];exact I.goes (hnx hl) rfl rfl rfl rfl (by show(m.out++[_]).length≤_;simp) rfl
 | jump to=>rw [zag (.inl rfl) hfin];exact I.goes hl rfl rfl rfl rfl (Nat.le_succ _) rfl
 | less r s to =>
  rw [zag (.inl rfl) hfin]
  refine I.goes (m1:=m) ?_ rfl rfl rfl rfl (Nat.le_succ _) rfl
  split
  ·exact hl.1
  ·exact hnx hl.2
 | same r s to =>
  rw [zag (.inl rfl) hfin]
  refine I.goes (m1:=m) ?_ rfl rfl rfl rfl (Nat.le_succ _) rfl
  split
  ·exact hl.1
  ·exact hnx hl.2
 | call to =>
  by_cases h16:m.frames=16
  ·have e1:exec (.call to) (m.at'+1) m={ m with fin:=4 }:=if_pos h16
   rw [zag (.inr (by rw [e1];show(2:Int)<4;decide)) hfin,e1]
   exact I.fault hfin (by decide)
  ·have e1:exec (.call to) (m.at'+1) m={ m with backs:=m.backs++[m.at'+1],frames:=m.frames+1,peak:=max m.peak (m.frames+1) }.goes to:=if_neg h16
   rw [zag (.inl (by rw [e1];rfl)) hfin,e1]
   have hs:=I.steps
   have ho:=I.out
   have hw:=I.few
   obtain⟨pk,hpk,hpk1⟩:=I.peak
   refine⟨hl.1,?_,?_,?_,?_,?_,?_⟩
   ·show ∀ z∈m.backs++[m.at'+1],_
    intro z hz
    rw [List.mem_append,List.mem_singleton] at hz
    rcases hz with hz|rfl
    ·exact I.backs z hz
    ·exact hnx hl.2
   ·show m.frames+1=if m.fin=2 then 0 else((m.backs++[m.at'+1]).length:Int)+1
    rw [if_neg (by omega),hf];simp
   ·show(m.backs++[m.at'+1]).length≤15
    simp;omega
   ·show ∃ q:Nat,max m.peak (m.frames+1)=(q:Int)∧q≤16
    exact⟨max pk (m.backs.length+2),by rw [hpk,hf];omega,by omega⟩
   ·show 0≤m.steps+1;omega
   ·show(m.out.length:Int)≤m.steps+1;omega
 | back =>
  have hs:=I.steps
  have ho:=I.out
  by_cases h1:m.frames=1
  ·have e0:exec .back (m.at'+1) m={ m with frames:=0,fin:=2 }.goes (-1):=if_pos h1
   have e1:zaN .back m={ m with steps:=m.steps+1,frames:=0,fin:=2 }:=by
    unfold zaN;rw [e0,if_pos (.inr rfl)];rfl
   rw [e1]
   exact⟨I.at_,I.backs,by show(0:Int)=if(2:Int)=2 then 0 else _;rw [if_pos rfl],I.few,I.peak,by show 0≤m.steps+1;omega,by show(m.out.length:Int)≤m.steps+1;omega⟩
  ·have e0:exec .back (m.at'+1) m={ m with frames:=m.frames-1,backs:=m.backs.dropLast }.goes (m.backs.getLastD 0):=if_neg h1
   rw [zag (.inl (by rw [e0];rfl)) hfin,e0]
   obtain⟨J,x,hJ⟩:∃ I x,m.backs=I++[x]:=by
    rcases List.eq_nil_or_concat m.backs with h|⟨I,x,h⟩
    ·rw [h] at hf;simp at hf;omega
    ·exact⟨I,x,by rw [h,List.concat_eq_append]⟩
   have hb:=I.backs
   have hw:=I.few
   rw [hJ] at hb hw hf
   simp at hw hf
   refine⟨?_,?_,?_,?_,I.peak,?_,?_⟩
   ·show InC N (m.backs.getLastD 0)
    rw [hJ];simp
    exact hb x (by simp)
   ·show ∀ z∈m.backs.dropLast,_
    rw [hJ];simp
    intro z hz
    exact hb z (by simp [hz])
   ·show m.frames-1=if m.fin=2 then 0 else(m.backs.dropLast.length:Int)+1
    rw [if_neg (by omega),hJ];simp;omega
   ·show m.backs.dropLast.length≤15
    rw [hJ];simp;omega
   ·show 0≤m.steps+1;omega
   ·show(m.out.length:Int)≤m.steps+1;omega
 | stop =>
  have hs:=I.steps
  have ho:=I.out
  have e1:zaN .stop m={ m with steps:=m.steps+1,fin:=1 }:=by
   unfold zaN;rw [show exec .stop (m.at'+1) m={ m with fin:=1 }.goes (-1) from rfl,if_pos (.inl rfl)];rfl
  rw [e1]
  exact⟨I.at_,I.backs,by show m.frames=if(1:Int)=2 then 0 else _;rw [if_neg (by decide)];exact hf,I.few,I.peak,by show 0≤m.steps+1;omega,by show(m.out.length:Int)≤m.steps+1;omega⟩
theorem zip(i:Ins)(m:Mc)(h:m.fin=0):
  (((zaN i m).fin=0∨(zaN i m).fin=1∨(zaN i m).fin=2)∧(zaN i m).steps=m.steps+1∨((zaN i m).fin=3∨(zaN i m).fin=4)∧(zaN i m).steps=m.steps)∧(zaN i m).inp.length≤m.inp.length:=by
 obtain⟨F,hi⟩:=zqp i (m.at'+1) m h
 unfold zaN
 rcases F with ⟨h1,h2⟩|⟨h1,_,h2⟩|⟨h1,_,h2⟩
 ·rw [if_neg (by omega)];exact⟨.inl ⟨.inl h1,h2⟩,hi⟩
 ·rw [if_pos h1];exact⟨.inl ⟨.inr h1,h2⟩,hi⟩
 ·rw [if_neg (by omega)];exact⟨.inr ⟨h1,h2⟩,hi⟩
def CodeIn(w:World)(g:Nat)(C:List (Ins × Int)):Prop:=∀ j (h:j<C.length),w.cell? ⟨g,j*2,none⟩=some (.iface (insT C[j].1) (.agg (insA C[j].1)))∧w.cell? ⟨g,j*2+1,none⟩=some (.int .i64 C[j].2)
structure CodeOk(C:List (Ins × Int)):Prop where
 some_:0<C.length
 few:C.length≤300
 ok:∀ j (h:j<C.length),zhn C[j].1
 leads:∀ j (h:j<C.length),zsB C.length j C[j].1
def zc0(C:List (Ins × Int))(m:Mc):Mc:=match C[m.at'.toNat]? with|none=>m|some q=>zaN q.1 m
theorem zhy{C:List (Ins × Int)}{m:Mc}{k:Nat}(hk:m.at'=(k:Int))(h:k<C.length):zc0 C m=zaN C[k].1 m:=by
 unfold zc0;rw [hk,Int.toNat_natCast,List.getElem?_eq_getElem h]
def zbl(inp:List Int):Mc:=⟨0,[],inp,0,fun _=>0,fun _=>0,[],1,1,0⟩
def zho(C:List (Ins × Int))(m:Mc):Int:=if m.fin=1∨m.fin=2 then 0 else(C[m.at'.toNat]?.map (·.2)).getD 0
theorem CodeIn.below{w w':World}{g B:Nat}{C:List (Ins × Int)}(h:CodeIn w g C)(hb:Below B w w')(hg:g<B):CodeIn w' g C:=fun j hj=>⟨(hb.cell (p:=⟨g,j*2,none⟩) hg).trans (h j hj).1,(hb.cell (p:=⟨g,j*2+1,none⟩) hg).trans (h j hj).2⟩
theorem zeQ{C:List (Ins × Int)}(K:CodeOk C)(inp:List Int):InvD C.length (zbl inp) :=
 ⟨⟨0,rfl,K.some_⟩,by simp [zbl],rfl,by simp [zbl],⟨1,rfl,by omega⟩,Int.le_refl _,Int.le_refl _⟩
end
end Go.Proofs.YtfpgjkbjbbgciaaGreatDoor
