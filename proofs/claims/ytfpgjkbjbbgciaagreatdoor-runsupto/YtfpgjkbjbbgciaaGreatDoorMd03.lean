import Derived.Test.YtfpgjkbjbbgciaaGreatDoorMd01
import Derived.Test.YtfpgjkbjbbgciaaGreatDoorMd02
import Derived.StillTail
import Derived.BigQuiet
import Derived.Lib.ParseIntB
set_option maxRecDepth 100000
set_option maxHeartbeats 8000000
namespace Go.Proofs.YtfpgjkbjbbgciaaGreatDoor
open Go.RowKit Sp
theorem za9{a b:Bool}(h:a=b):Ending.returned (.bool a)=.returned (.bool b):=by rw [h]
theorem zcd(s:ByteArray)(w:World)(hs:s.size≤140737488355328):
  Calls Tryz.prog 71 #[.string s] w fun e w'=>e=.returned (.bool (zao s 0))∧w'=w:=by
 go_enter Tryz.func71,Tryz.ntmps71
 go_wp2
 go_loop [3] (fun ti=>∃ j:Nat,j≤s.size∧ti=.int .i64 (j:Int)∧zao s 0=zao s j) (fun ti=>s.size-(intOf ti).toNat)
 case atStart=>exact⟨0,by omega,rfl,rfl⟩
 case round =>
  obtain⟨j,hj,rfl,hR⟩:=hrel
  have HR:Hid (zao s 0=zao s j):=hR
  clear hR
  by_cases hlt:j<s.size
  ·by_cases h0:(chr s j).1=0
   ·go_wp2_with(go_at_call 106;refine(zhp s j _ hs hlt).mono ?_;rintro e w' ⟨rfl,rfl⟩)
    go_ret
    exact⟨za9 (by rw [HR.out,zhr s j hlt h0]),rfl⟩
   ·have hp:=zcA s j hlt h0
    obtain⟨hp1,hp2,hp3,hp4,_,_⟩:=hp
    have HP:Hid (((chrN s j:Nat):Int)=(chr s j).1):=hp1
    have hq1:1≤(chr s j).1:=by omega
    have hq2:(chr s j).1≤4:=by omega
    have hq:((chr s j).1 == 0)=false:=by simpa using h0
    clear hp1
    go_wp2_with(go_at_call 106;refine(zhp s j _ hs hlt).mono ?_;rintro e w' ⟨rfl,rfl⟩)
    go_round
    case rel=>have e:=HP.out;exact⟨j+chrN s j,by omega,by go_num,by rw [HR.out,zgB s j hlt h0]⟩
    case measure=>have e:=HP.out;simp [intOf];omega
  ·go_wp2
   go_ret
   exact⟨za9 (by rw [HR.out,zhq s j hlt]),rfl⟩
theorem zhs(c:Int)(h:97≤c∧c≤122∨c=95∨945≤c∧c≤969):zcB c=true:=by simpa [zcB] using h
theorem zuh(c:Int)(h:¬(97≤c∧c≤122∨c=95∨945≤c∧c≤969)):¬zcB c=true:=by simpa [zcB] using h
theorem zrh(c:Int)(h:48≤c∧c≤57):zba c=true:=by simpa [zba] using h
theorem zui(c:Int)(h:¬(48≤c∧c≤57)):¬zba c=true:=by simpa [zba] using h
theorem zwy(c:Int)(j:Nat)(h:97≤c∧c≤122∨95≤c∧c≤95∨945≤c∧c≤969∨(48≤c∧c≤57)∧¬j=0):zcB c=true∨zba c=true∧¬j=0:=by
 rcases h with h|h|h|⟨h,h'⟩
 ·exact .inl (zhs c (by omega))
 ·exact .inl (zhs c (by omega))
 ·exact .inl (zhs c (by omega))
 ·exact .inr ⟨zrh c h,h'⟩
theorem zuj(c:Int)(j:Nat)(h:¬(97≤c∧c≤122∨95≤c∧c≤95∨945≤c∧c≤969∨(48≤c∧c≤57)∧¬j=0)):¬(zcB c=true∨zba c=true∧¬j=0):=by
 intro hh
 rcases hh with h1|⟨h1,h2⟩
 ·exact absurd h1 (zuh c (by omega))
 ·exact absurd h1 (zui c (by omega))
theorem zri(c:Int)(j:Nat)(h0:0≤c)(h1:c≤1114111):((97≤c∧c≤122)∨(95≤c∧c≤95∧(c == 95)=true)∨(945≤c∧c≤969∧(c == 95)=false)∨(48≤c∧c≤57∧((j:Int) == 0)=false∧(c == 95)=false)) ∨
  ((48≤c∧c≤57∧((j:Int) == 0)=true∧(c == 95)=false)∨(0≤c∧c<48∧(c == 95)=false)∨(57<c∧c<95∧(c == 95)=false)∨(95<c∧c<97∧(c == 95)=false)∨(122<c∧c<945∧(c == 95)=false)∨(969<c∧c≤1114111∧(c == 95)=false)):=by
 by_cases h:(j:Int)=0
 ·by_cases h':c=95 <;> simp [h,h'] <;> omega
 ·by_cases h':c=95 <;> simp [h'] <;> omega
theorem zht(c:Nat)(h:1≤c):decide ((c:Int)≤12)=zcC (some c):=by
 unfold zcC
 by_cases h':c≤12
 ·simp [h,h'];omega
 ·simp [h'];omega
theorem ziM(c:Nat)(h:¬1≤c):false=zcC (some c):=by
 unfold zcC;simp;omega
theorem zha(s:ByteArray)(w:World)(hs:s.size≤140737488355328):
  Calls Tryz.prog 73 #[.string s] w fun e w'=>e=.returned (.bool (za2 s))∧w'=w:=by
 go_enter Tryz.func73,Tryz.ntmps73
 go_wp2
 go_loop [3,4] (fun tc ti=>∃ j c:Nat,j≤s.size∧c≤j∧ti=.int .i64 (j:Int)∧tc=.int .i64 (c:Int)∧za2 s=zcC (zcN s j c)) (fun _ ti=>s.size-(intOf ti).toNat)
 case atStart=>exact⟨0,0,by omega,by omega,rfl,rfl,rfl⟩
 case round =>
  obtain⟨j,c,hj,hc,rfl,rfl,hR⟩:=hrel
  have HR:Hid (za2 s=zcC (zcN s j c)):=hR
  clear hR
  by_cases hlt:j<s.size
  ·by_cases h0:(chr s j).1=0
   ·have h2:(chr s j).2=0:=by
     rcases zwk s j hlt with h|h
     ·rw [h]
     ·omega
    go_wp2_with(go_at_call 106;refine(zhp s j _ hs hlt).mono ?_;rintro e w' ⟨rfl,rfl⟩)
    go_ret
    exact⟨za9 (by rw [HR.out,ziL s j c hlt h0];rfl),rfl⟩
   ·have hp:=zcA s j hlt h0
    obtain⟨hp1,hp2,hp3,hp4,hp5,hp6⟩:=hp
    have HP:Hid (((chrN s j:Nat):Int)=(chr s j).1):=hp1
    have hq1:1≤(chr s j).1:=by omega
    have hq2:(chr s j).1≤4:=by omega
    have hq:((chr s j).1 == 0)=false:=by simpa using h0
    clear hp1
    rcases zri (chr s j).2 j hp5 hp6 with hw|hw
    ·have HI:Hid (za2 s=zcC (zcN s (j+chrN s j) (c+1))):=by
      rw [HR.out,zfi s j c hlt h0 (zwy _ _ (by simp only [beq_eq_false_iff_ne,ne_eq] at hw;omega))];rfl
     rcases hw with ⟨h,h'⟩|⟨h,h',hx⟩|⟨h,h',hx⟩|⟨h,h',hz,hx⟩
     all_goals
      go_wp2_with(go_at_call 106;refine(zhp s j _ hs hlt).mono ?_;rintro e w' ⟨rfl,rfl⟩)
      go_round
      case rel=>have e:=HP.out;exact⟨j+chrN s j,c+1,by omega,by omega,by go_num,by go_num,HI.out⟩
      case measure=>have e:=HP.out;simp [intOf];omega
    ·have HI:Hid (false=za2 s):=by
      rw [HR.out,zgi s j c hlt h0 (zuj _ _ (by simp only [beq_iff_eq] at hw;omega))];rfl
     rcases hw with ⟨h,h',hz,hx⟩|⟨h,h',hx⟩|⟨h,h',hx⟩|⟨h,h',hx⟩|⟨h,h',hx⟩|⟨h,h',hx⟩
     all_goals
      go_wp2_with(go_at_call 106;refine(zhp s j _ hs hlt).mono ?_;rintro e w' ⟨rfl,rfl⟩)
     all_goals first
      | (exfalso;omega)
      | (exfalso;rename_i hh;simp only [Bool.not_eq_false',decide_eq_true_eq] at hh;omega)
      | (go_ret;exact⟨za9 HI.out,rfl⟩)
  ·have HF:Hid (za2 s=zcC (some c)):=by rw [HR.out,ziK s j c hlt];rfl
   by_cases h1:1≤c
   ·go_wp2
    go_ret
    exact⟨za9 (by rw [HF.out];exact zht c h1),rfl⟩
   ·go_wp2
    go_ret
    exact⟨za9 (by rw [HF.out];exact ziM c h1),rfl⟩
end Go.Proofs.YtfpgjkbjbbgciaaGreatDoor
namespace Go.Proofs.YtfpgjkbjbbgciaaGreatDoor.Sp
def opOk(k:UInt8)(x:ByteArray):Bool:=if k=82 then decide (0≤reg x) else if k=75 then(zaE x).2 else za2 x
def zaT:List UInt8→List ByteArray→Bool
 | [],_=>true
 | k :: ks,x :: xs=>opOk k x&&zaT ks xs
 | _ :: _,[]=>true
def zfA(s:ByteArray):Int:=bt s (s.size-1)
def zk0(x:ByteArray):Bool:=isW x [102,117,110,99]
structure Said where
 kind:Int
 kept:List ByteArray
 ok:Bool
def sayW(l:List ByteArray):Said :=
 match l with
 | []=>⟨0,[],true⟩
 | x :: r =>
  if zk0 x=true then⟨102,l,decide (l.length=2)&&za2 (l.getLast?.getD ByteArray.empty)⟩
  else if l.length=1∧zfA x=58 then⟨108,[x.extract 0 (x.size-1)],za2 (x.extract 0 (x.size-1))⟩
  else⟨105,l,if zaa x=[63]∨¬l.length=(zaa x).length+1 then false else zaT (zaa x) r⟩
def say(s:ByteArray):Said:=if zao s 0=true then sayW (words s) else⟨0,[],false⟩
theorem zfk(s now:ByteArray)(l:List ByteArray)(hl:∀ x∈l,1≤x.size∧x.size≤s.size)(hn:now.size≤s.size):∀ x∈zfj now l,1≤x.size∧x.size≤s.size:=by
 intro x hx
 unfold zfj at hx
 split at hx
 ·exact hl x hx
 ·rw [List.mem_append] at hx
  rcases hx with hx|hx
  ·exact hl x hx
  ·simp at hx;subst hx;omega
theorem zdT(s:ByteArray)(i:Nat)(now:ByteArray)(l:List ByteArray)(hl:∀ x∈l,1≤x.size∧x.size≤s.size)(hn:now.size≤i)(hi:i≤s.size):∀ x∈za4 s i now l,1≤x.size∧x.size≤s.size:=by
 by_cases h:i<s.size
 ·by_cases h1:bt s i=32∨bt s i=9∨bt s i=59
  ·by_cases h2:bt s i=59
   ·rw [zc4 s i now l h h2];exact zfk s now l hl (by omega)
   ·rw [zb2 s i now l h (by omega)]
    exact zdT s (i+1) _ _ (zfk s now l hl (by omega)) (by simp) (by omega)
  ·rw [zeK s i now l h h1]
   exact zdT s (i+1) _ _ hl (by rw [ByteArray.size_append,ByteArray.size_extract];omega) (by omega)
 ·rw [zcQ s i now l h];exact zfk s now l hl (by omega)
termination_by s.size-i
theorem zfl(s:ByteArray):∀ x∈words s,1≤x.size∧x.size≤s.size:=zdT s 0 _ _ (by simp) (by simp) (by omega)
theorem ziP(ks:List UInt8)(xs:List ByteArray)(i:Nat)(hk:i<ks.length)(hx:i<xs.length):zaT (ks.drop i) (xs.drop i)=(opOk ks[i] xs[i]&&zaT (ks.drop (i+1)) (xs.drop (i+1))):=by
 rw [List.drop_eq_getElem_cons hk,List.drop_eq_getElem_cons hx];rfl
def Wf(q:Said):Prop:=(q.kind=0∧q.kept.length=0)∨(q.kind=102∧q.kept.length=2)∨(q.kind=108∧q.kept.length=1)∨(q.kind=105∧1≤q.kept.length∧q.kept.length≤4)
def eqW(a b:ByteArray):Bool:=a.toList == b.toList
def Said.word(q:Said)(i:Nat):ByteArray:=q.kept[i]?.getD ByteArray.empty
def isFn(q:Said)(x:ByteArray):Bool:=decide (q.kind=102)&&eqW (q.word 1) x
def zcR(q:Said)(x:ByteArray):Bool:=decide (q.kind=108)&&eqW (q.word 0) x
def zaJ(L:List Said)(x:ByteArray)(i:Nat):Int :=
 if h:i<L.length then(if isFn L[i] x=true then(i:Int) else zaJ L x (i+1)) else -1
termination_by L.length-i
def zcm(L:List Said):Nat→Int
 | 0=>if(L[0]?.map Said.kind)=some 102 then 0 else -1
 | k+1=>if(L[k+1]?.map Said.kind)=some 102 then((k+1:Nat):Int) else zcm L k
def zaU(L:List Said)(x:ByteArray)(i:Nat):Int :=
 if h:i<L.length then(if L[i].kind=102 then -1 else if zcR L[i] x=true then(i:Int) else zaU L x (i+1)) else -1
termination_by L.length-i
def zbZ(L:List Said)(k:Nat)(x:ByteArray):Int:=zaU L x (zcm L k+1).toNat
theorem zeN(L:List Said)(x:ByteArray)(i:Nat)(h:¬i<L.length):zaJ L x i=-1:=by rw [zaJ,dif_neg h]
theorem zds(L:List Said)(x:ByteArray)(i:Nat)(h:i<L.length)(h':isFn L[i] x=true):zaJ L x i=i:=by rw [zaJ,dif_pos h,if_pos h']
theorem zdf(L:List Said)(x:ByteArray)(i:Nat)(h:i<L.length)(h':isFn L[i] x=false):zaJ L x i=zaJ L x (i+1):=by rw [zaJ,dif_pos h,if_neg (by simp [h'])]
theorem zdV(L:List Said)(x:ByteArray)(i:Nat)(h:¬i<L.length):zaU L x i=-1:=by rw [zaU,dif_neg h]
theorem zfB(L:List Said)(x:ByteArray)(i:Nat)(h:i<L.length)(h':L[i].kind=102):zaU L x i=-1:=by rw [zaU,dif_pos h,if_pos h']
theorem zcS(L:List Said)(x:ByteArray)(i:Nat)(h:i<L.length)(h0:¬L[i].kind=102)(h':zcR L[i] x=true):zaU L x i=i:=by rw [zaU,dif_pos h,if_neg h0,if_pos h']
theorem zbS(L:List Said)(x:ByteArray)(i:Nat)(h:i<L.length)(h0:¬L[i].kind=102)(h':zcR L[i] x=false):zaU L x i=zaU L x (i+1):=by rw [zaU,dif_pos h,if_neg h0,if_neg (by simp [h'])]
theorem zfC(L:List Said)(k:Nat)(h:k<L.length)(h':L[k].kind=102):zcm L k=k:=by
 cases k with
 | zero=>unfold zcm;rw [List.getElem?_eq_getElem h];simp [h']
 | succ k=>unfold zcm;rw [List.getElem?_eq_getElem h];simp [h']
theorem zpn(L:List Said)(h:0<L.length)(h':¬L[0].kind=102):zcm L 0=-1:=by
 unfold zcm;rw [List.getElem?_eq_getElem h];simp [h']
theorem zdH(L:List Said)(k:Nat)(h:k+1<L.length)(h':¬L[k+1].kind=102):zcm L (k+1)=zcm L k:=by
 conv=>lhs;unfold zcm
 rw [List.getElem?_eq_getElem h];simp [h']
theorem zuv(L:List Said)(k:Nat):-1≤zcm L k∧zcm L k≤k:=by
 induction k with
 | zero=>unfold zcm;split <;> simp
 | succ k ih=>unfold zcm;split <;> omega
end Go.Proofs.YtfpgjkbjbbgciaaGreatDoor.Sp
namespace Go.Proofs.YtfpgjkbjbbgciaaGreatDoor
section
variable {P:Program} {ops:Array Oper} {md:Region.Mode} {C:World→Prop}
def zhK(P:Program)(md:Region.Mode)(ops:Array Oper)(C:World→Prop)(n:Nat)(L:Array Bool→Act→Prop):Nat→Array Bool→Act→Prop
 | 0,listed,a=>L listed a
 | f+1,listed,a=>¬Region.ready md ops listed=[]∧∀ i∈Region.ready md ops listed,i<n∧qOp P ops C i (zhK P md ops C n L f (listed.setIfInBounds i true)) a
theorem zhL{n g:Nat}{L:Array Bool→Act→Prop}{Q:Exit→Act→World→Prop}(hL:∀ listed a w,C w→L listed a→wpAny P md ops Q g listed a w)(f:Nat):
  ∀(listed:Array Bool) (a:Act) (w:World),C w→zhK P md ops C n L f listed a→wpAny P md ops Q (f+g) listed a w:=by
 induction f with
 | zero=>intro listed a w hw h;rw [Nat.zero_add];exact hL _ _ _ hw h
 | succ f ih =>
  intro listed a w hw h
  rw [show f+1+g=(f+g)+1 by omega]
  exact⟨fun h0=>absurd h0 h.1,fun i hi=>wpOp_of_qOp hw (fun a' w' hw' h'=>ih _ a' w' hw' h') (h.2 i hi).2⟩
theorem zjf{n i:Nat}{listed:Array Bool}(hs:Region.sinkB md ops n=true)(hc:Region.chainB md ops n=true)(hn:n<ops.size)(hin:i<n)(inv:HeadInv md ops n listed)(hr:i∈Region.ready md ops listed){j:Nat}(hj:j∈Region.ready md ops listed):j<n:=by
 by_cases h:j<n
 ·exact h
 ·exact absurd hj (tail_waits hs hc hn inv _ i rfl hin (mem_ready.1 hr).1 j (by omega))
theorem zpI{n i:Nat}{oi:Oper}{v:Value}{L:Array Bool→Act→Prop}(hi:ops[i]?=some oi)(hsel:∀(j:Nat) (o:Oper) cs b,ops[j]?=some o→o.op≠.select cs b)
  (hs:Region.sinkB md ops n=true) (hc:Region.chainB md ops n=true) (hn:n<ops.size) (hin:i<n)
  (hdone:∀ listed a,L listed a→∀ j∈Region.ready md ops listed,n≤j) (f:Nat) :
  ∀(listed:Array Bool) (a:Act),HeadInv md ops n listed →
   (∀ j oj,ops[j]?=some oj→j≠i→listed.getD j true=false→(∀ e∈oj.after,Region.binds md e=true→e.on≠i)→oi.apart ops oj=true) →
   i∈Region.ready md ops listed→YieldsIn P ops C oi v a →
   zhK P md ops C n L f (listed.setIfInBounds i true) (a.put oi.dst v)→zhK P md ops C n L (f+1) listed a:=by
 induction f with
 | zero =>
  intro listed a inv _ hr hy H
  refine⟨fun h=>(by rw [h] at hr;cases hr),fun j hj=>?_⟩
  have hjn:=zjf hs hc hn hin inv hr hj
  by_cases e:j=i
  ·exact⟨hjn,by rw [e];exact hy.qOp hi H⟩
  ·have:=hdone _ _ H j (ready_mono hj e);omega
 | succ f ih =>
  intro listed a inv hfree hr hy H
  refine⟨fun h=>(by rw [h] at hr;cases hr),fun j hj=>?_⟩
  have hjn:=zjf hs hc hn hin inv hr hj
  by_cases e:j=i
  ·exact⟨hjn,by rw [e];exact hy.qOp hi H⟩
  ·obtain⟨hjun,oj,hoj,hall⟩:=mem_ready.1 hj
   have hun:=(mem_ready.1 hr).1
   have hnot:∀ d∈oj.after,Region.binds md d=true→d.on≠i:=fun d hd hb heq=>by
    have h1:=hall d hd hb
    rw [heq,getD_both hun] at h1
    cases h1
   have h2:=qOp_put hoj (hfree j oj hoj e hjun hnot) (fun cs b=>hsel i oi cs b hi) (fun cs b=>hsel j oj cs b hoj) hy (H.2 j (ready_mono hj e)).2
   refine⟨hjn,qOp_mono (fun a' h3=>ih (listed.setIfInBounds j true) a' (inv.set hj hjn) (fun k ok hk hki hku hno=>?_) (ready_mono hr (Ne.symm e)) h3.1 (by rw [Array.setIfInBounds_comm _ _ e];exact h3.2)) h2⟩
   refine hfree k ok hk hki ?_ hno
   by_cases hjk:j=k
   ·rw [←hjk];exact hjun
   ·rw [getD_set_ne true hjk] at hku;exact hku
theorem zoe{n g:Nat}{R:Act→Prop}(hsel:Region.noSelect ops=true)(hs:Region.sinkB md ops n=true)(hc:Region.chainB md ops n=true)(hn:n<ops.size)(l:List Oper):
  ∀(k:Nat) (listed:Array Bool) (a:Act),(∀ j,j<l.length→l[j]?=ops[k+j]?)→k+l.length=n→HeadInv md ops n listed →
  Region.lexHead md ops g l.length k listed=true→wpQuiet P ops C R l a →
  zhK P md ops C n (fun listed' a'=>Region.seqB md ops g n listed'=true∧R a') l.length listed a:=by
 induction l with
 | nil =>
  intro k listed a _ hk _ hB h
  obtain rfl:k=n:=by simpa using hk
  exact⟨by simpa [Region.lexHead] using hB,h⟩
 | cons o l ih =>
  intro k listed a hl hk inv hB h
  have h0:ops[k]?=some o:=by simpa using (hl 0 (by simp)).symm
  simp only [List.length_cons,Region.lexHead,Bool.and_eq_true] at hB hk
  have hr:k∈Region.ready md ops listed:=by simpa using hB.1.1
  have hq:qOp P ops C k (wpQuiet P ops C R l) a:=by unfold qOp;simp only [h0];exact h
  obtain⟨v,hy,hK⟩:=yieldsIn_of_qOp h0 hq
  refine zpI h0 (Region.noSelect_spec hsel) hs hc hn (by omega) (fun _ _ hL=>seqB_ready hL.1) l.length listed a inv (Region.free_spec h0 hB.1.2) hr hy ?_
  refine ih (k+1) _ _ (fun j hj=>?_) (by omega) (inv.set hr (by omega)) hB.2 hK
  have:=hl (j+1) (by simp;omega)
  simpa [Nat.add_assoc,Nat.add_comm 1 j] using this
theorem zak{id:Nat}{Q:Exit→Act→World→Prop}{a:Act}{w:World}{l:List Oper}(n:Nat)(hm:P.follows .mixedOrders=true)(hB:Region.lexTailB .any l.toArray n=true)
  (h:wpQuiet P l.toArray (fun w'=>∃ k,w'=w.drewN k) (fun a'=>∀ w',(∃ k,w'=w.drewN k)→wpList P l.toArray Q (l.drop n) a' w') (l.take n) a):(Code.region id l.toArray true).wp P Q a w:=by
 simp only [Region.lexTailB,Bool.and_eq_true,decide_eq_true_eq] at hB
 obtain⟨⟨⟨⟨hsel,hn⟩,hs⟩,hc⟩,hlex⟩:=hB
 have hn':n<l.length:=by simpa using hn
 have htl:(l.take n).length=n:=by simp;omega
 have hdl:(l.drop n).length=l.toArray.size-n:=by simp
 have inv0:HeadInv .any l.toArray n (Array.replicate l.toArray.size false) :=
  ⟨by simp,fun j oj _ hl=>(by rw [getD_replicate_false] at hl;cases hl),fun t _ ht=>getD_in (by simpa using ht) (getD_replicate_false _ _)⟩
 have H:=zoe (md:=.any) (g:=l.toArray.size-n) hsel hs hc hn (l.take n) 0 _ a (fun j hj=>by
  have:j<n:=by rw [htl] at hj;exact hj
  simp [this]) (by simpa using htl) inv0 (by rw [htl];exact hlex) h
 refine wp_region_any hm ?_
 have:=zhL (Q:=Q) (g:=l.toArray.size-n) (fun listed a' w' hw' hL=>by
  have:=wpAny_of_seq (md:=.any) (Q':=Q) (l.drop n) n listed a' w' (fun j=>by simp [List.getElem?_drop]) (by rw [hdl];exact hL.1) (hL.2 w' hw')
  rwa [hdl] at this) _ _ _ _ ⟨1,rfl⟩ H
 rw [htl,show n+(l.toArray.size-n)=l.toArray.size by omega] at this
 exact this
end
end Go.Proofs.YtfpgjkbjbbgciaaGreatDoor
namespace Go.Proofs.YtfpgjkbjbbgciaaGreatDoor.Sp
def numL:List UInt8→Int→Option Int
 | [],n=>some n
 | c :: r,n=>if zdc n ((c.toNat:Int)-48)=true then none else numL r (10*n-((c.toNat:Int)-48))
theorem zjE(s:ByteArray)(i:Nat)(h:i<s.size):∃ c r,s.data.toList.drop i=c :: r∧(c.toNat:Int)=bt s i∧r=s.data.toList.drop (i+1):=by
 have h':i<s.data.toList.length:=by simpa using h
 refine⟨s.data.toList[i],s.data.toList.drop (i+1),List.drop_eq_getElem_cons h',?_,rfl⟩
 unfold bt
 have h2:i<s.data.size:=h
 rw [Array.getElem?_eq_getElem h2]
 simp
theorem zhu(s:ByteArray)(i:Nat)(n:Int):zcD s i n=numL (s.data.toList.drop i) n:=by
 by_cases h:i<s.size
 ·obtain⟨c,r,h1,h2,h3⟩:=zjE s i h
  rw [h1]
  cases hb:zdc n (bt s i-48) with
  | true=>rw [zet s i n h hb];simp [numL,h2,hb]
  | false =>
   rw [zdG s i n h (by simp [hb]),zhu s (i+1),←h3]
   simp [numL,h2,hb]
 ·rw [zdF s i n h,List.drop_of_length_le (by simpa using h)];rfl
termination_by s.size-i
def zbc:List UInt8→Bool
 | []=>true
 | c :: r=>decide (48≤c.toNat∧c.toNat≤57)&&zbc r
theorem zpc(a:Nat)(d:Int)(h0:0≤d)(h9:d≤9):zdc (-(a:Int)) d=decide (9223372036854775808<10*(a:Int)+d):=by
 unfold zdc
 rw [zhb d h9]
 by_cases h:9223372036854775808<10*(a:Int)+d
 ·have:-(a:Int) < -((9223372036854775808-d)/10):=by omega
  simp [h,this]
 ·have:¬-(a:Int) < -((9223372036854775808-d)/10):=by omega
  have h1:¬d<0:=by omega
  have h2:¬9<d:=by omega
  simp [h,this,h1,h2]
theorem zmy(M:Nat)(l:List UInt8)(a u:Nat)(h:Lib.parseUintM M a l=.ok u):a≤u:=by
 induction l generalizing a with
 | nil=>simp [Lib.parseUintM] at h;omega
 | cons c r ih =>
  unfold Lib.parseUintM at h
  split at h
  ·split at h
   ·cases h
   ·split at h
    ·cases h
    ·have:=ih _ h;omega
  ·cases h
def zeo:Lib.NumEnd Nat→Option Int
 | .ok u=>if u≤9223372036854775808 then some (-(u:Int)) else none
 | _=>none
theorem znO(l:List UInt8)(a:Nat)(hd:zbc l=true)(ha:a≤9223372036854775808):numL l (-(a:Int))=zeo (Lib.parseUintM (2 ^ 64-1) a l):=by
 induction l generalizing a with
 | nil=>simp [numL,Lib.parseUintM,zeo,ha]
 | cons c r ih =>
  simp only [zbc,Bool.and_eq_true,decide_eq_true_eq] at hd
  obtain⟨hc,hr⟩:=hd
  unfold numL Lib.parseUintM
  rw [if_pos hc,zpc a _ (by omega) (by omega)]
  by_cases hb:9223372036854775808<10*(a:Int)+((c.toNat:Int)-48)
  ·rw [if_pos (by simpa using hb)]
   split
   ·rfl
   ·split
    ·rfl
    ·cases he:Lib.parseUintM (2 ^ 64-1) (a*10+(c.toNat-48)) r with
     | ok u =>
      have:=zmy _ _ _ _ he
      simp [zeo];omega
     | «syntax»=>rfl
     | range=>rfl
  ·rw [if_neg (by simpa using hb),if_neg (by omega),if_neg (by omega)]
   have e:10 * -(a:Int)-((c.toNat:Int)-48)=-((a*10+(c.toNat-48):Nat):Int):=by omega
   rw [e]
   exact ih _ hr (by omega)
theorem znP(l:List UInt8)(n:Int)(hd:zbc l=false):numL l n=none:=by
 induction l generalizing n with
 | nil=>simp [zbc] at hd
 | cons c r ih =>
  unfold numL
  cases hb:zdc n ((c.toNat:Int)-48) with
  | true=>rfl
  | false =>
   have hr:zbc r=false:=by
    simp only [zbc] at hd
    have hc:48≤c.toNat∧c.toNat≤57:=by
     simp [zdc] at hb
     omega
    simpa [hc] using hd
   simp only [Bool.false_eq_true,if_false]
   exact ih _ hr
def bare(l:List UInt8):List UInt8:=match l with|45 :: r=>r|l=>l
theorem ziO(s:ByteArray):zdu s=(match s.data.toList with|45 :: _=>true|_=>false):=by
 by_cases h:0<s.size
 ·obtain⟨c,r,h1,h2,_⟩:=zjE s 0 h
  rw [List.drop_zero] at h1
  rw [h1]
  unfold zdu
  rw [←h2]
  by_cases hc:c=45
  ·subst hc;simp [h]
  ·have:¬(c.toNat:Int)=45:=by
    intro e;apply hc;exact UInt8.toNat_inj.1 (by simp;omega)
   simp [h,this]
   split
   ·rename_i heq;simp at heq;exact absurd heq.1 hc
   ·rfl
 ·have h0:s.data.toList=[]:=List.eq_nil_of_length_eq_zero (by simpa using h)
  rw [h0]
  simp [zdu,h]
theorem zun(s:ByteArray)(h:zbc (bare s.data.toList)=false):(zaE s).2=false:=by
 have hm:=ziO s
 unfold zaE
 split at hm
 ·rename_i r heq
  rw [hm,if_pos rfl]
  rw [heq] at h
  split
  ·rfl
  ·rw [zhu,heq]
   simp only [List.drop_succ_cons,List.drop_zero]
   rw [znP r 0 (by simpa [bare] using h)];rfl
 ·rename_i hne
  rw [hm,if_neg (by simp)]
  have hb:bare s.data.toList=s.data.toList:=by
   unfold bare;split
   ·rename_i r heq;exact absurd heq (hne r)
   ·rfl
  rw [hb] at h
  split
  ·rfl
  ·rw [zhu,List.drop_zero,znP _ 0 h];rfl
theorem zuo(s:ByteArray)(h:zbc (bare s.data.toList)=true):(∀ v,Lib.parseIntB 64 s.data.toList=.ok v→zaE s=(v,true))∧(Lib.parseIntB 64 s.data.toList=.«syntax»→(zaE s).2=false)∧(Lib.parseIntB 64 s.data.toList=.range→(zaE s).2=false):=by
 have hm:=ziO s
 have hsz:s.data.toList.length=s.size:=by simp
 split at hm
 ·rename_i r heq
  have hr:zbc r=true:=by rw [heq] at h;simpa [bare] using h
  rw [heq] at hsz ⊢
  have e:zaE s=if s.size=1 then(0,false) else zbx true (zcD s 1 0):=by unfold zaE;rw [hm,if_pos rfl]
  rw [e,zhu,heq]
  simp only [List.drop_succ_cons,List.drop_zero]
  have hmag:=znO r 0 hr (by omega)
  simp only [Int.ofNat_zero,Int.neg_zero] at hmag
  rw [hmag]
  simp only [List.length_cons] at hsz
  have hp:Lib.parseIntB 64 (45 :: r)=(match Lib.parseUintB 64 r with|.«syntax»=>.«syntax»|.range=>.range|.ok u=>if 9223372036854775808<u then .range else .ok (-(u:Int))):=by
   unfold Lib.parseIntB
   simp
   cases Lib.parseUintB 64 r <;> rfl
  rw [hp]
  unfold Lib.parseUintB
  by_cases h0:r=[]
  ·subst h0
   have:s.size=1:=by simp at hsz;omega
   simp [this]
  ·have h1:¬s.size=1:=by cases r with|nil=>exact absurd rfl h0|cons a b=>simp at hsz;omega
   rw [if_neg h0,if_neg h1]
   cases he:Lib.parseUintM (2 ^ 64-1) 0 r with
   | «syntax»=>simp [zeo,zbx]
   | range=>simp [zeo,zbx]
   | ok u =>
    by_cases hu:u≤9223372036854775808
    ·have hu':¬9223372036854775808<u:=by omega
     simp [zeo,hu,hu',zbx]
    ·have hu':9223372036854775808<u:=by omega
     simp [zeo,hu,hu',zbx]
 ·rename_i hne
  have hb:bare s.data.toList=s.data.toList:=by
   unfold bare;split
   ·rename_i r heq;exact absurd heq (hne r)
   ·rfl
  rw [hb] at h
  have e:zaE s=if s.size=0 then(0,false) else zbx false (zcD s 0 0):=by unfold zaE;rw [hm,if_neg (by simp)]
  rw [e,zhu,List.drop_zero]
  have hmag:=znO s.data.toList 0 h (by omega)
  simp only [Int.ofNat_zero,Int.neg_zero] at hmag
  rw [hmag]
  generalize s.data.toList=l at *
  cases l with
  | nil =>
   have:s.size=0:=by simpa using hsz.symm
   simp [this,Lib.parseIntB]
  | cons c r =>
   have h1:¬s.size=0:=by simp at hsz;omega
   rw [if_neg h1]
   simp only [zbc,Bool.and_eq_true,decide_eq_true_eq] at h
   have c1:¬c.toNat=43:=by omega
   have c2:¬c.toNat=45:=by omega
   have hp:Lib.parseIntB 64 (c :: r)=(match Lib.parseUintB 64 (c :: r) with|.«syntax»=>.«syntax»|.range=>.range|.ok u=>if 9223372036854775808≤u then .range else .ok (u:Int)):=by
    unfold Lib.parseIntB
    simp [c1,c2]
    cases Lib.parseUintB 64 (c :: r) <;> rfl
   rw [hp]
   unfold Lib.parseUintB
   rw [if_neg (by simp)]
   cases he:Lib.parseUintM (2 ^ 64-1) 0 (c :: r) with
   | «syntax»=>simp [zeo,zbx]
   | range=>simp [zeo,zbx]
   | ok u =>
    by_cases hu:9223372036854775808≤u
    ·by_cases hu2:u≤9223372036854775808
     ·have hu3:u=9223372036854775808:=by omega
      subst hu3
      simp [zeo,zbx,least]
     ·simp [zeo,zbx,hu,hu2]
    ·have hu2:u≤9223372036854775808:=by omega
     have hu3:¬(-(u:Int))=least:=by unfold least;omega
     have hu4:least < -(u:Int):=by unfold least;omega
     simp [zeo,zbx,hu,hu2,hu3,hu4]
end Go.Proofs.YtfpgjkbjbbgciaaGreatDoor.Sp
namespace Go.Proofs.YtfpgjkbjbbgciaaGreatDoor
open Go.RowKit Sp
theorem zhc(now:ByteArray)(l:List ByteArray)(h:now.size=0):zfj now l=l:=by unfold zfj;rw [if_pos h]
theorem zdd(now:ByteArray)(l:List ByteArray)(h:¬now.size=0):zfj now l=l++[now]:=by unfold zfj;rw [if_neg h]
theorem zrr(b:Int):((b != 32)=true∧(b != 9)=true∧(b != 59)=true∧¬(b=32∨b=9∨b=59))∨((b != 32)=false∧(b == 59)=false∧b=32)∨((b != 32)=true∧(b != 9)=false∧(b == 59)=false∧b=9)∨((b != 32)=true∧(b != 9)=true∧(b != 59)=false∧(b == 59)=true∧b=59):=by
 by_cases h1:b=32
 ·subst h1;simp
 ·by_cases h2:b=9
  ·subst h2;simp
  ·by_cases h3:b=59
   ·subst h3;simp
   ·left;simp [h1,h2,h3]
theorem zrs(now s:ByteArray)(k:Nat)(h:k<s.size):(now++s.extract k (k+1)).size=now.size+1:=by
 rw [ByteArray.size_append,ByteArray.size_extract];omega
theorem zhv(s:ByteArray)(w:World)(hs:s.size≤1048576):
  Calls Tryz.prog 72 #[.string s] w fun e w'=>∃ v,e=.returned v∧w'.ownsRow w.heap.size 9 1 v (words s).length ((words s).map Value.string)∧Below w.heap.size w w':=by
 obtain⟨i0,hi,hz0,hz1,hz2⟩:=info_parts Tryz.info9
 go_enter Tryz.func72,Tryz.ntmps72
 go_wp2
 go_loopw [3,4,5] (fun v tn ti wr=>∃(k:Nat) (now:ByteArray) (acc:List ByteArray),now.size≤k∧acc.length≤k∧ti=.int .i64 (k:Int)∧tn=.string now∧wr.ownsRow w.heap.size 9 1 v acc.length (acc.map Value.string)∧Below w.heap.size w wr∧(k≤s.size∧words s=za4 s k now acc∨k=s.size+1∧words s=acc)) (fun _ _ ti _=>s.size+1-(intOf ti).toNat)
 case atStart=>exact⟨0,ByteArray.empty,[],by simp,by simp,rfl,rfl,World.ownsRow_nil _ _ _ _,Below.refl _ _,.inl ⟨by omega,rfl⟩⟩
 case round =>
  obtain⟨k,now,acc,hn,hacc,rfl,rfl,hown,hnx,hR⟩:=hrel
  have HR:Hid (k≤s.size∧words s=za4 s k now acc∨k=s.size+1∧words s=acc):=hR
  clear hR
  have hsz:=hnx.size
  by_cases hlt:k<s.size
  ·have HW:Hid (words s=za4 s k now acc):=by rcases HR.out with h|h;exact h.2;omega
   clear HR
   have hc0:0≤(s[k].toNat:Int):=by omega
   have hc1:(s[k].toNat:Int)≤255:=by have:=s[k].toNat_lt;omega
   have HE:Hid ((s[k].toNat:Int)=bt s k):=zdE s k hlt
   rcases zrr (s[k].toNat:Int) with ⟨h1,h2,h3,h4⟩|⟨h1,h3,h4⟩|⟨h1,h2,h3,h4⟩|⟨h1,h2,h3,h5,h4⟩
   ·have HF:Hid (words s=za4 s (k+1) (now++s.extract k (k+1)) acc):=by
     rw [HW.out,zeK s k now acc hlt (by have:=HE.out;omega)];rfl
    have hnow:=zrs now s k hlt
    have HN:Hid ((now++s.extract k (k+1)).size=now.size+1):=hnow
    clear hnow h4
    go_wp2
    go_roundw
    case rel=>exact⟨k+1,now++s.extract k (k+1),acc,by have:=HN.out;omega,by omega,by go_num,rfl,hown,hnx,.inl ⟨by omega,HF.out⟩⟩
    case measure=>simp [intOf];omega
   ·have H4:Hid ((s[k].toNat:Int)=32):=h4
    clear h4
    by_cases hz:now.size=0
    ·have he:=zcP now hz
     have HF:Hid (words s=za4 s (k+1) ByteArray.empty acc):=by
      rw [HW.out,zb2 s k now acc hlt (by have:=HE.out;have:=H4.out;omega),zhc now acc hz];rfl
     go_wp2
     go_roundw
     case rel=>exact⟨k+1,ByteArray.empty,acc,by simp,by omega,by go_num,rfl,hown,hnx,.inl ⟨by omega,HF.out⟩⟩
     case measure=>simp [intOf];omega
    ·have he:=zdr now hz
     have HF:Hid (words s=za4 s (k+1) ByteArray.empty (acc++[now])):=by
      rw [HW.out,zb2 s k now acc hlt (by have:=HE.out;have:=H4.out;omega),zdd now acc hz];rfl
     go_wp2_with(at_builtin;refine wpList_append_own _ rfl _ _ 67 rfl w.heap.size 9 i0 (.string ByteArray.empty) 1 16 Tryz.under67 hi hz0 hz1 hz2 rfl (by decide) _ _ _ rfl (hown.alloc _) ⟨wr.heap.size,0,none⟩ 1 1 [.string now] rfl rfl (cell_one_new _ _ _) (zda _) (by unfold maxLen;omega) (by omega) (by simp;omega) ?_)
     intro v' w1 hown' hgrow _
     have hb1:=zeL hown hsz hnx hgrow
     clear hgrow
     go_wp2
     go_roundw
     case rel=>exact⟨k+1,ByteArray.empty,acc++[now],by simp,by simp;omega,by go_num,rfl,by simpa using hown',hb1,.inl ⟨by omega,HF.out⟩⟩
     case measure=>simp [intOf];omega
   ·have H4:Hid ((s[k].toNat:Int)=9):=h4
    clear h4
    by_cases hz:now.size=0
    ·have he:=zcP now hz
     have HF:Hid (words s=za4 s (k+1) ByteArray.empty acc):=by
      rw [HW.out,zb2 s k now acc hlt (by have:=HE.out;have:=H4.out;omega),zhc now acc hz];rfl
     go_wp2
     go_roundw
     case rel=>exact⟨k+1,ByteArray.empty,acc,by simp,by omega,by go_num,rfl,hown,hnx,.inl ⟨by omega,HF.out⟩⟩
     case measure=>simp [intOf];omega
    ·have he:=zdr now hz
     have HF:Hid (words s=za4 s (k+1) ByteArray.empty (acc++[now])):=by
      rw [HW.out,zb2 s k now acc hlt (by have:=HE.out;have:=H4.out;omega),zdd now acc hz];rfl
     go_wp2_with(at_builtin;refine wpList_append_own _ rfl _ _ 67 rfl w.heap.size 9 i0 (.string ByteArray.empty) 1 16 Tryz.under67 hi hz0 hz1 hz2 rfl (by decide) _ _ _ rfl (hown.alloc _) ⟨wr.heap.size,0,none⟩ 1 1 [.string now] rfl rfl (cell_one_new _ _ _) (zda _) (by unfold maxLen;omega) (by omega) (by simp;omega) ?_)
     intro v' w1 hown' hgrow _
     have hb1:=zeL hown hsz hnx hgrow
     clear hgrow
     go_wp2
     go_roundw
     case rel=>exact⟨k+1,ByteArray.empty,acc++[now],by simp,by simp;omega,by go_num,rfl,by simpa using hown',hb1,.inl ⟨by omega,HF.out⟩⟩
     case measure=>simp [intOf];omega
   ·have H4:Hid ((s[k].toNat:Int)=59):=h4
    clear h4
    by_cases hz:now.size=0
    ·have he:=zcP now hz
     have HF:Hid (words s=acc):=by
      rw [HW.out,zc4 s k now acc hlt (by have:=HE.out;have:=H4.out;omega),zhc now acc hz];rfl
     go_wp2
     go_ret
     exact⟨_,rfl,by rw [HF.out];exact hown,hnx⟩
    ·have he:=zdr now hz
     have HF:Hid (words s=acc++[now]):=by
      rw [HW.out,zc4 s k now acc hlt (by have:=HE.out;have:=H4.out;omega),zdd now acc hz];rfl
     go_wp2_with(at_builtin;refine wpList_append_own _ rfl _ _ 67 rfl w.heap.size 9 i0 (.string ByteArray.empty) 1 16 Tryz.under67 hi hz0 hz1 hz2 rfl (by decide) _ _ _ rfl (hown.alloc _) ⟨wr.heap.size,0,none⟩ 1 1 [.string now] rfl rfl (cell_one_new _ _ _) (zda _) (by unfold maxLen;omega) (by omega) (by simp;omega) ?_)
     intro v' w1 hown' hgrow _
     have hb1:=zeL hown hsz hnx hgrow
     clear hgrow
     go_wp2
     go_ret
     exact⟨_,rfl,by rw [HF.out];simpa using hown',hb1⟩
  ·by_cases heq:k=s.size
   ·have HW:Hid (words s=za4 s k now acc):=by rcases HR.out with h|h;exact h.2;omega
    clear HR
    have HQ:Hid (k=s.size):=heq
    have hle:k≤s.size:=by omega
    clear heq
    by_cases hz:now.size=0
    ·have he:=zcP now hz
     have HF:Hid (words s=acc):=by
      rw [HW.out,zcQ s k now acc hlt,zhc now acc hz];rfl
     go_wp2
     go_roundw
     case rel=>exact⟨k+1,ByteArray.empty,acc,by simp,by omega,by go_num,rfl,hown,hnx,.inr ⟨by have:=HQ.out;omega,HF.out⟩⟩
     case measure=>simp [intOf];omega
    ·have he:=zdr now hz
     have HF:Hid (words s=acc++[now]):=by
      rw [HW.out,zcQ s k now acc hlt,zdd now acc hz];rfl
     go_wp2_with(at_builtin;refine wpList_append_own _ rfl _ _ 67 rfl w.heap.size 9 i0 (.string ByteArray.empty) 1 16 Tryz.under67 hi hz0 hz1 hz2 rfl (by decide) _ _ _ rfl (hown.alloc _) ⟨wr.heap.size,0,none⟩ 1 1 [.string now] rfl rfl (cell_one_new _ _ _) (zda _) (by unfold maxLen;omega) (by omega) (by simp;omega) ?_)
     intro v' w1 hown' hgrow _
     have hb1:=zeL hown hsz hnx hgrow
     clear hgrow
     go_wp2
     go_roundw
     case rel=>exact⟨k+1,ByteArray.empty,acc++[now],by simp,by simp;omega,by go_num,rfl,by simpa using hown',hb1,.inr ⟨by have:=HQ.out;omega,HF.out⟩⟩
     case measure=>simp [intOf];omega
   ·have hgt:s.size<k:=by omega
    have HF:Hid (words s=acc):=by
     rcases HR.out with h|h
     ·omega
     ·exact h.2
    clear HR
    go_wp2
    go_ret
    exact⟨_,rfl,by rw [HF.out];exact hown,hnx⟩
end Go.Proofs.YtfpgjkbjbbgciaaGreatDoor
