import Derived.Test.YtfpgjkbjbbgciaaGreatDoorMi01
import Derived.Test.YtfpgjkbjbbgciaaGreatDoorMi03
set_option maxRecDepth 100000
set_option maxHeartbeats 8000000
namespace Go.Proofs.YtfpgjkbjbbgciaaGreatDoor
section
section
variable {P:Program} {ops:Array Oper} {md:Region.Mode} {C:World→Prop}
def zhT(P:Program)(md:Region.Mode)(ops:Array Oper)(C:World→Prop)(n:Nat)(L:Array Bool→Act→Prop):Nat→Array Bool→Act→Prop
 | 0,listed,a=>L listed a
 | f+1,listed,a=>¬Region.ready md ops listed=[]∧∀ i∈Region.ready md ops listed,i<n∧qOp P ops C i (zhT P md ops C n L f (listed.setIfInBounds i true)) a
theorem zhU{n g:Nat}{L:Array Bool→Act→Prop}{Q:Exit→Act→World→Prop}(hL:∀ listed a w,C w→L listed a→wpAny P md ops Q g listed a w)(f:Nat):
  ∀(listed:Array Bool) (a:Act) (w:World),C w→zhT P md ops C n L f listed a→wpAny P md ops Q (f+g) listed a w:=by
 induction f with
 | zero=>intro listed a w hw h;rw [Nat.zero_add];exact hL _ _ _ hw h
 | succ f ih =>
  intro listed a w hw h
  rw [show f+1+g=(f+g)+1 by omega]
  exact⟨fun h0=>absurd h0 h.1,fun i hi=>wpOp_of_qOp hw (fun a' w' hw' h'=>ih _ a' w' hw' h') (h.2 i hi).2⟩
theorem zjz{n i:Nat}{listed:Array Bool}(hs:Region.sinkB md ops n=true)(hc:Region.chainB md ops n=true)(hn:n<ops.size)(hin:i<n)(inv:HeadInv md ops n listed)(hr:i∈Region.ready md ops listed){j:Nat}(hj:j∈Region.ready md ops listed):j<n:=by
 by_cases h:j<n
 ·exact h
 ·exact absurd hj (tail_waits hs hc hn inv _ i rfl hin (mem_ready.1 hr).1 j (by omega))
theorem zpN{n i:Nat}{oi:Oper}{v:Value}{L:Array Bool→Act→Prop}(hi:ops[i]?=some oi)(hsel:∀(j:Nat) (o:Oper) cs b,ops[j]?=some o→o.op≠.select cs b)
  (hs:Region.sinkB md ops n=true) (hc:Region.chainB md ops n=true) (hn:n<ops.size) (hin:i<n)
  (hdone:∀ listed a,L listed a→∀ j∈Region.ready md ops listed,n≤j) (f:Nat) :
  ∀(listed:Array Bool) (a:Act),HeadInv md ops n listed →
   (∀ j oj,ops[j]?=some oj→j≠i→listed.getD j true=false→(∀ e∈oj.after,Region.binds md e=true→e.on≠i)→oi.apart ops oj=true) →
   i∈Region.ready md ops listed→YieldsIn P ops C oi v a →
   zhT P md ops C n L f (listed.setIfInBounds i true) (a.put oi.dst v)→zhT P md ops C n L (f+1) listed a:=by
 induction f with
 | zero =>
  intro listed a inv _ hr hy H
  refine⟨fun h=>(by rw [h] at hr;cases hr),fun j hj=>?_⟩
  have hjn:=zjz hs hc hn hin inv hr hj
  by_cases e:j=i
  ·exact⟨hjn,by rw [e];exact hy.qOp hi H⟩
  ·have:=hdone _ _ H j (ready_mono hj e);omega
 | succ f ih =>
  intro listed a inv hfree hr hy H
  refine⟨fun h=>(by rw [h] at hr;cases hr),fun j hj=>?_⟩
  have hjn:=zjz hs hc hn hin inv hr hj
  by_cases e:j=i
  ·exact⟨hjn,by rw [e];exact hy.qOp hi H⟩
  ·obtain⟨hjun,oj,hoj,hall⟩:=mem_ready.1 hj
   have hun:=(mem_ready.1 hr).1
   have hnot:∀ d∈oj.after,Region.binds md d=true→d.on≠i:=fun d hd hb heq=>by
    have h1:=hall d hd hb
    rw [heq,getD_both hun] at h1
    cases h1
   have h2:=qOp_put hoj (hfree j oj hoj e hjun hnot) (fun cs b=>hsel i oi cs b hi) (fun cs b=>hsel j oj cs b hoj) hy (H.2 j (ready_mono hj e)).2
   refine⟨hjn,qOp_mono (fun a' h3=>ih (listed.setIfInBounds j true) a' (inv.set hj hjn) (fun k ok hk hki hku hno=>?_) (ready_mono hr (Ne.symm e)) h3.1 (by rw [Array.setIfInBounds_comm _ _ e];exact h3.2)) h2⟩
   refine hfree k ok hk hki ?_ hno
   by_cases hjk:j=k
   ·rw [←hjk];exact hjun
   ·rw [getD_set_ne true hjk] at hku;exact hku
theorem zoD{n g:Nat}{R:Act→Prop}(hsel:Region.noSelect ops=true)(hs:Region.sinkB md ops n=true)(hc:Region.chainB md ops n=true)(hn:n<ops.size)(l:List Oper):
  ∀(k:Nat) (listed:Array Bool) (a:Act),(∀ j,j<l.length→l[j]?=ops[k+j]?)→k+l.length=n→HeadInv md ops n listed →
  Region.lexHead md ops g l.length k listed=true→wpQuiet P ops C R l a →
  zhT P md ops C n (fun listed' a'=>Region.seqB md ops g n listed'=true∧R a') l.length listed a:=by
 induction l with
 | nil =>
  intro k listed a _ hk _ hB h
  obtain rfl:k=n:=by simpa using hk
  exact⟨by simpa [Region.lexHead] using hB,h⟩
 | cons o l ih =>
  intro k listed a hl hk inv hB h
  have h0:ops[k]?=some o:=by simpa using (hl 0 (by simp)).symm
  simp only [List.length_cons,Region.lexHead,Bool.and_eq_true] at hB hk
  have hr:k∈Region.ready md ops listed:=by simpa using hB.1.1
  have hq:qOp P ops C k (wpQuiet P ops C R l) a:=by unfold qOp;simp only [h0];exact h
  obtain⟨v,hy,hK⟩:=yieldsIn_of_qOp h0 hq
  refine zpN h0 (Region.noSelect_spec hsel) hs hc hn (by omega) (fun _ _ hL=>seqB_ready hL.1) l.length listed a inv (Region.free_spec h0 hB.1.2) hr hy ?_
  refine ih (k+1) _ _ (fun j hj=>?_) (by omega) (inv.set hr (by omega)) hB.2 hK
  have:=hl (j+1) (by simp;omega)
  simpa [Nat.add_assoc,Nat.add_comm 1 j] using this
theorem zam{id:Nat}{Q:Exit→Act→World→Prop}{a:Act}{w:World}{l:List Oper}(n:Nat)(hm:P.follows .mixedOrders=true)(hB:Region.lexTailB .any l.toArray n=true)
  (h:wpQuiet P l.toArray (fun w'=>∃ k,w'=w.drewN k) (fun a'=>∀ w',(∃ k,w'=w.drewN k)→wpList P l.toArray Q (l.drop n) a' w') (l.take n) a):(Code.region id l.toArray true).wp P Q a w:=by
 simp only [Region.lexTailB,Bool.and_eq_true,decide_eq_true_eq] at hB
 obtain⟨⟨⟨⟨hsel,hn⟩,hs⟩,hc⟩,hlex⟩:=hB
 have hn':n<l.length:=by simpa using hn
 have htl:(l.take n).length=n:=by simp;omega
 have hdl:(l.drop n).length=l.toArray.size-n:=by simp
 have inv0:HeadInv .any l.toArray n (Array.replicate l.toArray.size false) :=
  ⟨by simp,fun j oj _ hl=>(by rw [getD_replicate_false] at hl;cases hl),fun t _ ht=>getD_in (by simpa using ht) (getD_replicate_false _ _)⟩
 have H:=zoD (md:=.any) (g:=l.toArray.size-n) hsel hs hc hn (l.take n) 0 _ a (fun j hj=>by
  have:j<n:=by rw [htl] at hj;exact hj
  simp [this]) (by simpa using htl) inv0 (by rw [htl];exact hlex) h
 refine wp_region_any hm ?_
 have:=zhU (Q:=Q) (g:=l.toArray.size-n) (fun listed a' w' hw' hL=>by
  have:=wpAny_of_seq (md:=.any) (Q':=Q) (l.drop n) n listed a' w' (fun j=>by simp [List.getElem?_drop]) (by rw [hdl];exact hL.1) (hL.2 w' hw')
  rwa [hdl] at this) _ _ _ _ ⟨1,rfl⟩ H
 rw [htl,show n+(l.toArray.size-n)=l.toArray.size by omega] at this
 exact this
end
end
section
open Go.RowKit Sp
theorem zfG(now:ByteArray)(l:List ByteArray)(h:¬now.size=0):flush now l=l++[now]:=by unfold flush;rw [if_neg h]
end
section
open Go.RowKit Sp
attribute [local go_sem ↓] Go.wp_at_zero Go.wp_at_succ
theorem Tryz.info2:(Tryz.prog.info? 2).map (fun i=>(i.zero,i.size,i.bytes))=some (some (.int .i64 0),1,8):=by kernel_rfl
theorem Tryz.info3:(Tryz.prog.info? 3).map (fun i=>(i.zero,i.size,i.bytes))=some (some (.int .i64 0),1,8):=by kernel_rfl
theorem Tryz.under29:Tryz.prog.underlying 29=some (.slice 2):=by kernel_rfl
theorem Tryz.under59:Tryz.prog.underlying 59=some (.slice 3):=by kernel_rfl
end
section
open Go.RowKit Sp
theorem zbw{w w':World}{B b:Nat}{e:TypeId}{size n:Nat}{v:Value}{xs:List Value}(h:w.ownsRow b e size v n xs)(hb:Below B w w')(hB:w.heap.size≤B):w'.ownsRow b e size v n xs:=by
 refine⟨h.1,?_⟩
 rcases h.2 with h2|⟨g,cap,cur,hv,hg,hh,r⟩
 ·exact .inl h2
 ·refine .inr ⟨g,cap,cur,hv,hg,?_,r⟩
  rw [hb.block g (by have:=(Array.getElem?_eq_some_iff.1 hh).1;omega)]
  exact hh
theorem zcU{w:World}{b b':Nat}{e e':TypeId}{size size' n n':Nat}{v v':Value}{xs xs':List Value}(h:w.ownsRow b e size v n xs)(h':w.ownsRow b' e' size' v' n' xs')(hne:¬e=e'):v.ownBlock=none∨v.ownBlock≠v'.ownBlock:=by
 rcases h.2 with ⟨hv,_⟩|⟨g,cap,cur,hv,hg,hh,r⟩
 ·subst hv;exact .inl rfl
 ·rcases h'.2 with ⟨hv',_⟩|⟨g',cap',cur',hv',hg',hh',r'⟩
  ·subst hv hv';exact .inr (by simp [Value.ownBlock])
  ·subst hv hv'
   refine .inr ?_
   simp only [Value.ownBlock]
   intro heq
   simp only [Option.some.injEq] at heq
   subst heq
   rw [hh] at hh'
   simp at hh'
   exact hne hh'.2
end
section
section
variable {P:Program} {ops:Array Oper} {C:World→Prop}
theorem zad{id:Nat}{Q:Exit→Act→World→Prop}{a:Act}{w:World}{l:List Oper}(n:Nat)(C:World→Prop)(hC:C (w.drewN 1))(hm:P.follows .mixedOrders=true)(hB:Region.lexTailB .any l.toArray n=true)
  (h:wpQuiet P l.toArray C (fun a'=>∀ w',C w'→wpList P l.toArray Q (l.drop n) a' w') (l.take n) a):(Code.region id l.toArray true).wp P Q a w:=by
 simp only [Region.lexTailB,Bool.and_eq_true,decide_eq_true_eq] at hB
 obtain⟨⟨⟨⟨hsel,hn⟩,hs⟩,hc⟩,hlex⟩:=hB
 have hn':n<l.length:=by simpa using hn
 have htl:(l.take n).length=n:=by simp;omega
 have hdl:(l.drop n).length=l.toArray.size-n:=by simp
 have inv0:HeadInv .any l.toArray n (Array.replicate l.toArray.size false) :=
  ⟨by simp,fun j oj _ hl=>(by rw [getD_replicate_false] at hl;cases hl),fun t _ ht=>getD_in (by simpa using ht) (getD_replicate_false _ _)⟩
 have H:=zoD (md:=.any) (g:=l.toArray.size-n) hsel hs hc hn (l.take n) 0 _ a (fun j hj=>by
  have:j<n:=by rw [htl] at hj;exact hj
  simp [this]) (by simpa using htl) inv0 (by rw [htl];exact hlex) h
 refine wp_region_any hm ?_
 have:=zhU (Q:=Q) (g:=l.toArray.size-n) (fun listed a' w' hw' hL=>by
  have:=wpAny_of_seq (md:=.any) (Q':=Q) (l.drop n) n listed a' w' (fun j=>by simp [List.getElem?_drop]) (by rw [hdl];exact hL.1) (hL.2 w' hw')
  rwa [hdl] at this) _ _ _ _ hC H
 rw [htl,show n+(l.toArray.size-n)=l.toArray.size by omega] at this
 exact this
theorem zab{Q:Act→Prop}{o:Oper}{rest:List Oper}{a:Act}(hg:o.guard=none)(v:Value)(h:∀ W,C W→(execOp a.eval o).run P W=.ok (.value v) W)(hK:wpQuiet P ops C Q rest (a.put o.dst v)):wpQuiet P ops C Q (o :: rest) a:=by
 have hw:Region.wanted o (yielded ops a.tmps)=true:=by simp [Region.wanted,hg]
 unfold wpQuiet
 rw [if_pos hw]
 refine⟨v,fun W hW=>?_,hK⟩
 unfold Oper.quietAt
 rw [h W hW]
 exact⟨rfl,rfl⟩
theorem zaI{Q:Act→Prop}{o:Oper}{rest:List Oper}{a:Act}(hg:o.guard=none)(f:FuncId)(args:Array Value)(v:Value)(h:∀ W,C W→(execOp a.eval o).run P W=.ok (.enter f args) W)(hc:∀ W,C W→Calls P f args W fun e w''=>e=.returned v∧C w'')(hK:wpQuiet P ops C Q rest (a.put o.dst v)):wpQuiet P ops C Q (o :: rest) a:=by
 have hw:Region.wanted o (yielded ops a.tmps)=true:=by simp [Region.wanted,hg]
 unfold wpQuiet
 rw [if_pos hw]
 refine⟨v,fun W hW=>?_,hK⟩
 unfold Oper.quietAt
 rw [h W hW]
 exact⟨rfl,hc W hW⟩
end
end
namespace Sp
theorem zna(s:ByteArray)(a b c:Nat)(h1:a≤b)(h2:b≤c):s.extract a b++s.extract b c=s.extract a c:=by
 apply ByteArray.ext
 rw [ByteArray.data_append,ByteArray.data_extract,ByteArray.data_extract,ByteArray.data_extract]
 rw [Array.extract_append_extract]
 congr 1 <;> omega
theorem zxC(s:ByteArray)(a:Nat):s.extract a a=ByteArray.empty:=by
 apply ByteArray.ext
 rw [ByteArray.data_extract]
 simp
 omega
theorem zsa(s:ByteArray)(n i:Nat)(now:ByteArray)(l:List ByteArray)(hn:i+n≤s.size)(h:∀ j,i≤j→j<i+n→¬(bt s j=32∨bt s j=9∨bt s j=59)):zaD s i now l=zaD s (i+n) (now++s.extract i (i+n)) l:=by
 induction n generalizing i now with
 | zero =>
  rw [Nat.add_zero,zxC]
  congr 1
  simp
 | succ n ih =>
  rw [zeK s i now l (by omega) (h i (by omega) (by omega)),ih (i+1) _ (by omega) (fun j h1 h2=>h j (by omega) (by omega))]
  rw [show i+1+n=i+(n+1) by omega]
  congr 1
  rw [ByteArray.append_assoc,zna s i (i+1) (i+(n+1)) (by omega) (by omega)]
theorem zft(s:ByteArray)(k i:Nat)(v u:Int)(h:zdC s i k v=some u):∀ j,i≤j→j<i+k→128≤bt s j:=by
 induction k generalizing i v with
 | zero=>intro j h1 h2;omega
 | succ k ih =>
  unfold zdC at h
  split at h
  ·rename_i hc
   intro j h1 h2
   by_cases hj:j=i
   ·subst hj;omega
   ·exact ih _ _ h j (by omega) (by omega)
  ·cases h
theorem zhW(s:ByteArray)(i:Nat)(hi:i<s.size)(h0:¬(chr s i).1=0):(bt s i<128∧chr s i=(1,bt s i))∨(128≤(chr s i).2∧∀ j,i≤j→j<i+chrN s i→128≤bt s j):=by
 by_cases h:bt s i<128
 ·left;exact⟨h,by unfold chr;rw [if_pos h]⟩
 ·right
  unfold chrN
  unfold chr at h0 ⊢
  rw [if_neg h] at h0 ⊢
  split at h0
  ·rename_i hc
   rw [if_pos hc]
   rcases zb9 2 128 (zdC s (i+1) 1 (bt s i-192)) with h'|⟨v,h1,h2,h3,_⟩
   ·rw [h'] at h0;exact absurd rfl h0
   ·rw [h2]
    refine⟨h3,fun j a b=>?_⟩
    by_cases hj:j=i
    ·subst hj;omega
    ·exact zft s 1 (i+1) _ _ h1 j (by omega) (by simp at b;omega)
  ·rename_i hc
   rw [if_neg hc]
   split at h0
   ·rename_i hd
    rw [if_pos hd]
    rcases zb9 3 2048 (zdC s (i+1) 2 (bt s i-224)) with h'|⟨v,h1,h2,h3,_⟩
    ·rw [h'] at h0;exact absurd rfl h0
    ·rw [h2]
     refine⟨by show 128≤v;omega,fun j a b=>?_⟩
     by_cases hj:j=i
     ·subst hj;omega
     ·exact zft s 2 (i+1) _ _ h1 j (by omega) (by simp at b;omega)
   ·rename_i hd
    rw [if_neg hd]
    split at h0
    ·rename_i he
     rw [if_pos he]
     rcases zb9 4 65536 (zdC s (i+1) 3 (bt s i-240)) with h'|⟨v,h1,h2,h3,_⟩
     ·rw [h'] at h0;exact absurd rfl h0
     ·rw [h2]
      refine⟨by show 128≤v;omega,fun j a b=>?_⟩
      by_cases hj:j=i
      ·subst hj;omega
      ·exact zft s 3 (i+1) _ _ h1 j (by omega) (by simp at b;omega)
    ·exact absurd rfl h0
theorem zeN(s:ByteArray)(i:Nat)(now:ByteArray)(l:List ByteArray)(hi:i<s.size)(h0:¬(chr s i).1=0)(hc:¬((chr s i).2=32∨(chr s i).2=9∨(chr s i).2=59)):zaD s i now l=zaD s (i+chrN s i) (now++s.extract i (i+chrN s i)) l:=by
 have hp:=zde s i hi h0
 refine zsa s (chrN s i) i now l (by omega) (fun j h1 h2=>?_)
 rcases zhW s i hi h0 with ⟨ha,hb⟩|⟨_,hb⟩
 ·have hN:chrN s i=1:=by unfold chrN;rw [hb];rfl
  have:j=i:=by omega
  subst this
  rw [hb] at hc
  exact hc
 ·have:=hb j h1 h2;omega
theorem zhX(s:ByteArray)(i:Nat)(hi:i<s.size)(h0:¬(chr s i).1=0)(hc:(chr s i).2<128):bt s i=(chr s i).2∧chrN s i=1:=by
 rcases zhW s i hi h0 with ⟨ha,hb⟩|⟨hb,_⟩
 ·unfold chrN;rw [hb];exact⟨rfl,rfl⟩
 ·omega
def pre(p:List UInt8):List (List UInt8)→List (List UInt8)
 | h :: t=>(p++h) :: t
 | []=>[p]
def zbP:List UInt8→List (List UInt8)
 | []=>[[]]
 | c :: r=>if c=10 then [] :: zbP r else pre [c] (zbP r)
theorem znc(l:List (List UInt8))(h:l≠[]):pre [] l=l:=by
 cases l with
 | nil=>exact absurd rfl h
 | cons a b=>rfl
theorem zib(l:List UInt8):zbP l≠[]:=by
 cases l with
 | nil=>simp [zbP]
 | cons c r =>
  unfold zbP
  split
  ·simp
  ·cases zbP r <;> simp [pre]
theorem zxH(p q:List UInt8)(l:List (List UInt8)):pre p (pre q l)=pre (p++q) l:=by
 cases l <;> simp [pre]
theorem zkm(s:ByteArray)(f i:Nat)(hf:f≤i)(hi:i≤s.size):(zbN s f i).map (·.data.toList)=pre ((s.data.toList.drop f).take (i-f)) (zbP (s.data.toList.drop i)):=by
 by_cases h:i<s.size
 ·obtain⟨c,r,h1,h2,h3⟩:=zhI s i h
  by_cases h10:bt s i=10
  ·rw [zfp s f i h h10,List.map_cons,zkm s (i+1) (i+1) (by omega) (by omega),h1,←h3]
   have hc:c=10:=by
    apply UInt8.toNat_inj.1
    have:(c.toNat:Int)=10:=by omega
    simp;omega
   subst hc
   simp only [Nat.sub_self,List.take_zero]
   rw [znc _ (zib _)]
   simp [zbP,pre]
  ·rw [zgs s f i h h10,zkm s f (i+1) (by omega) (by omega),h1,←h3]
   have hc:¬c=10:=by
    intro e;apply h10;rw [←h2,e];rfl
   simp only [zbP,hc,if_false]
   rw [zxH]
   congr 1
   have e:i+1-f=(i-f)+1:=by omega
   rw [e,List.take_add_one]
   congr 1
   rw [List.getElem?_drop]
   have e2:f+(i-f)=i:=by omega
   rw [e2]
   have h5:s.data.toList[i]?=some c:=by
    have:(s.data.toList.drop i)[0]?=some c:=by rw [h1];rfl
    rw [List.getElem?_drop] at this
    simpa using this
   rw [h5];rfl
 ·have hz:i=s.size:=by omega
  rw [zfo s f i h]
  have hl:s.data.toList.drop i=[]:=List.drop_of_length_le (by simp;omega)
  rw [hl]
  simp [zbP,pre,hz]
termination_by s.size-i
theorem zxI(l:List UInt8):Lib.splitK [10] 0 (Lib.count l [10]) l=zbP l:=by
 induction l with
 | nil=>rw [Lib.count_miss (by simp [Lib.index])];rfl
 | cons c r ih =>
  by_cases hc:c=10
  ·subst hc
   rw [Lib.count_cons_eq,Nat.add_comm]
   have hix:Lib.index (10 :: r) [10]=0:=by rw [Lib.index];simp [List.isPrefixOf]
   unfold Lib.splitK
   rw [hix]
   simp only [zbP,if_true]
   rw [←ih]
   simp
  ·rw [Lib.count_cons_ne c 10 r hc]
   have hp:([10]:List UInt8).isPrefixOf (c :: r)=false:=by simp [List.isPrefixOf,Ne.symm hc]
   have hix:Lib.index (c :: r) [10]=if Lib.index r [10] == -1 then -1 else Lib.index r [10]+1:=by rw [Lib.index,hp];simp
   simp only [zbP,hc,if_false]
   rw [←ih]
   by_cases hm:Lib.index r [10]=-1
   ·rw [Lib.count_miss hm];rfl
   ·have hge:=Lib.index_ge r [10]
    obtain⟨j,hj⟩:∃ j:Nat,Lib.index r [10]=j:=⟨(Lib.index r [10]).toNat,by omega⟩
    rw [Lib.count_hit (by simp) hj,Nat.add_comm]
    unfold Lib.splitK
    rw [hix,hj]
    have b1:(((j:Nat):Int) == -1)=false:=by simp
    have b2:(((j:Nat):Int)+1 == -1)=false:=by simp;omega
    simp only [b1,b2,if_false,Bool.false_eq_true]
    have e1:((j:Int)+1).toNat=j+1:=by omega
    have e2:((j:Nat):Int).toNat=j:=by omega
    rw [e1,e2]
    simp [pre]
theorem zic(s:ByteArray):Lib.splitB ⟨#[10]⟩ 0 (Lib.countB s ⟨#[10]⟩) s=lines s:=by
 have h1:(Lib.splitB ⟨#[10]⟩ 0 (Lib.countB s ⟨#[10]⟩) s).map (·.data.toList)=(lines s).map (·.data.toList):=by
  rw [Lib.splitB_data]
  have h2:=zkm s 0 0 (by omega) (by omega)
  simp only [List.drop_zero,Nat.sub_self,List.take_zero] at h2
  rw [znc _ (zib _)] at h2
  show Lib.splitK [10] 0 (Lib.count s.data.toList [10]) s.data.toList=(zbN s 0 0).map _
  rw [h2,zxI]
 refine(List.map_inj_right ?_).1 h1
 intro a b h
 exact ByteArray.ext (Array.ext' h)
theorem zdZ(s:ByteArray):(lines s).length=Lib.countByte s.data.toList 10+1∧Lib.countB s ⟨#[10]⟩+1=(lines s).length:=by
 have h:=Lib.splitB_all ⟨#[10]⟩ (by decide) 0 _ s rfl
 rw [zic] at h
 refine⟨?_,h.symm⟩
 rw [h]
 unfold Lib.countByte
 rw [←Lib.count_one]
end Sp
end Go.Proofs.YtfpgjkbjbbgciaaGreatDoor
