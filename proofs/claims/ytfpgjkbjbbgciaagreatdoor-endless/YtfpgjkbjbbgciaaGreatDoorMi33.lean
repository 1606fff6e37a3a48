import Derived.Test.YtfpgjkbjbbgciaaGreatDoorMi18
import Derived.Test.YtfpgjkbjbbgciaaGreatDoorMi24
import Derived.Test.YtfpgjkbjbbgciaaGreatDoorMi26
import Derived.Test.YtfpgjkbjbbgciaaGreatDoorMi29
set_option maxRecDepth 100000
set_option maxHeartbeats 8000000
namespace Go.Proofs.YtfpgjkbjbbgciaaGreatDoor
open Go.RowKit Sp
theorem zk3(a b:Int)(w:World):Calls Tryz.prog 170 #[.int .i64 a,.int .i64 b] w fun e w'=>e=.returned (.int .i64 (cmpI a b))∧w'=w:=by
 by_cases h:a<b
 ·have e0:cmpI a b=-1:=if_pos h
  rw [e0]
  go_enter Tryz.func170,Tryz.ntmps170
  go_wp2
  go_ret
  exact⟨rfl,rfl⟩
 ·have hd:decide (a<b)=false:=by simpa using h
  by_cases h2:b<a
  ·have e0:cmpI a b=1:=(if_neg h).trans (if_pos h2)
   rw [e0]
   go_enter Tryz.func170,Tryz.ntmps170
   go_wp2
   go_ret
   exact⟨rfl,rfl⟩
  ·have hd2:decide (b<a)=false:=by simpa using h2
   have e0:cmpI a b=0:=(if_neg h).trans (if_neg h2)
   rw [e0]
   go_enter Tryz.func170,Tryz.ntmps170
   go_wp2
   go_ret
   exact⟨rfl,rfl⟩
def AgreeTo(xs ys:List Int)(j:Nat):Prop:=∀ i:Nat,i<j→xs[i]?=ys[i]?
theorem AgreeTo.all{xs ys:List Int}{j:Nat}(h:AgreeTo xs ys j)(h1:j=xs.length)(h2:j=ys.length):xs=ys:=by
 apply List.ext_getElem?
 intro i
 by_cases hi:i<j
 ·exact h i hi
 ·rw [List.getElem?_eq_none (by omega),List.getElem?_eq_none (by omega)]
theorem AgreeTo.succ{xs ys:List Int}{j:Nat}(h:AgreeTo xs ys j)(e:xs[j]?=ys[j]?):AgreeTo xs ys (j+1):=fun i hi=>by
 by_cases e2:i=j
 ·rw [e2];exact e
 ·exact h i (by omega)
theorem AgreeTo.cmp{xs ys:List Int}{j:Nat}(h:AgreeTo xs ys j)(h1:j≤xs.length)(h2:j≤ys.length):cmpL xs ys=cmpL (xs.drop j) (ys.drop j):=by
 induction j generalizing xs ys with
 | zero=>rfl
 | succ j ih =>
  cases xs with
  | nil=>simp at h1
  | cons a x =>
   cases ys with
   | nil=>simp at h2
   | cons b y =>
    have e:a=b:=by have:=h 0 (by omega);simpa using this
    subst e
    show(if cmpI a a=0 then cmpL x y else cmpI a a)=cmpL (x.drop j) (y.drop j)
    rw [if_pos (zlV a)]
    exact ih (fun i hi=>by have:=h (i+1) (by omega);simpa using this) (by simpa using h1) (by simpa using h2)
theorem AgreeTo.end1{xs ys:List Int}{j:Nat}(h:AgreeTo xs ys j)(h1:j=xs.length)(h2:j<ys.length):cmpL xs ys=-1:=by
 rw [h.cmp (by omega) (by omega),List.drop_of_length_le (by omega)]
 cases hd:ys.drop j with
 | nil=>have:=congrArg List.length hd;simp at this;omega
 | cons b y=>rfl
theorem AgreeTo.end2{xs ys:List Int}{j:Nat}(h:AgreeTo xs ys j)(h1:j<xs.length)(h2:j=ys.length):cmpL xs ys=1:=by
 rw [h.cmp (by omega) (by omega),List.drop_of_length_le (l:=ys) (by omega)]
 cases hd:xs.drop j with
 | nil=>have:=congrArg List.length hd;simp at this;omega
 | cons b y=>rfl
theorem AgreeTo.end3{xs ys:List Int}{j:Nat}(h:AgreeTo xs ys j)(h1:j<xs.length)(h2:j<ys.length)(hc:¬cmpI xs[j] ys[j]=0):cmpL xs ys=cmpI xs[j] ys[j]:=by
 rw [h.cmp (by omega) (by omega),List.drop_eq_getElem_cons h1,List.drop_eq_getElem_cons h2]
 show(if cmpI xs[j] ys[j]=0 then _ else _)=_
 rw [if_neg hc]
theorem BhM.addr{w:World}{ao:Option Addr}{cap:Nat}{l:List Int}(h:BhM w ao cap l)(hl:0<l.length):∃ g,ao=some ⟨g,0,none⟩:=by
 cases ao with
 | none=>obtain⟨e,_⟩:=h.nil rfl;rw [e] at hl;simp at hl
 | some a=>obtain⟨g,rfl⟩:=h.at0 a rfl;exact⟨g,rfl⟩
theorem zlX{w:World}(a1 a2:Option Addr)(c1 c2:Nat)(xs ys:List Int)(h1:BhM w a1 c1 xs)(h2:BhM w a2 c2 ys):Calls Tryz.prog 171 #[.slice a1 xs.length c1,.slice a2 ys.length c2] w fun e w'=>e=.returned (.int .i64 (cmpL xs ys))∧Below w.heap.size w w':=by
 have l1:=h1.len
 have l2:=h2.len
 go_enter Tryz.func171,Tryz.ntmps171
 go_wp2
 go_loopw [11] (fun ti wr=>∃ j:Nat,j≤xs.length∧j≤ys.length∧ti=.int .i64 (j:Int)∧AgreeTo xs ys j∧Below w.heap.size w wr) (fun ti _=>xs.length-(intOf ti).toNat)
 case atStart=>exact⟨0,by omega,by omega,rfl,fun i hi=>absurd hi (by omega),Below.refl _ _⟩
 case round =>
  obtain⟨j,hj,hj2,rfl,hA,hb⟩:=hrel
  have B1:=h1.below hb
  have B2:=h2.below hb
  have hj0:(0:Int)≤(j:Int):=by omega
  by_cases hx:j<xs.length
  ·have hx1:(j:Int)<(xs.length:Int):=by omega
   obtain⟨g1,rfl⟩:=B1.addr (by omega)
   have d1:=(B1.cell g1 rfl).2 j xs[j] (List.getElem?_eq_getElem hx)
   by_cases hy:j<ys.length
   ·have hy1:(j:Int)<(ys.length:Int):=by omega
    have hy2:decide ((ys.length:Int)≤(j:Int))=false:=by simpa using hy
    obtain⟨g2,rfl⟩:=B2.addr (by omega)
    have d2:=(B2.cell g2 rfl).2 j ys[j] (List.getElem?_eq_getElem hy)
    by_cases hc:cmpI xs[j] ys[j]=0
    ·have hcmp:=zk3 xs[j] ys[j]
     rw [hc] at hcmp
     go_wp2_with(go_at_call 170;(with_reducible refine(hcmp _).mono ?_);rintro e wx ⟨rfl,hww⟩;have hw2:=hww.symm;subst hw2)
     exact⟨⟨j+1,by omega,by omega,by go_num,hA.succ (by rw [List.getElem?_eq_getElem hx,List.getElem?_eq_getElem hy,zgd hc]),hb⟩,by simp [intOf];omega⟩
    ·have hcmp:=zk3 xs[j] ys[j]
     have he:Hid (cmpL xs ys=cmpI xs[j] ys[j]):=hA.end3 hx hy hc
     generalize cmpI xs[j] ys[j]=c at hc hcmp he
     have hc2:(c != 0)=true:=by simpa using hc
     go_wp2_with(go_at_call 170;(with_reducible refine(hcmp _).mono ?_);rintro e wx ⟨rfl,hww⟩;have hw2:=hww.symm;subst hw2)
     go_ret
     exact⟨by rw [he.out];rfl,hb⟩
   ·have hy2:(ys.length:Int)≤(j:Int):=by omega
    have he:Hid (cmpL xs ys=1):=hA.end2 hx (by omega)
    go_wp2
    go_ret
    exact⟨by rw [he.out];rfl,hb⟩
  ·have hx2:decide ((j:Int)<(xs.length:Int))=false:=by simpa using hx
   by_cases hl:xs.length<ys.length
   ·have hl2:(xs.length:Int)<(ys.length:Int):=by omega
    have he:Hid (cmpL xs ys=-1):=hA.end1 (by omega) (by omega)
    go_wp2
    go_ret
    exact⟨by rw [he.out];rfl,hb⟩
   ·have hl2:decide ((xs.length:Int)<(ys.length:Int))=false:=by simpa using hl
    have he:Hid (cmpL xs ys=0):=by rw [hA.all (by omega) (by omega)];exact zlW _
    go_wp2
    go_ret
    exact⟨by rw [he.out];rfl,hb⟩
def zf9(w:World)(k o:Kn):Ending→World→Prop:=fun e w'=>e=.returned (.int .i64 (cmpK k o))∧Below w.heap.size w w'
theorem zhf{w:World}{b c b1 c1:Nat}{a1 a2:Option Addr}{k o:Kn}(h:KnM w b (.slice a1 k.behind.length b1) k)(h2:KnM w c (.slice a2 o.behind.length c1) o)(B1:BhM w a1 b1 k.behind)(B2:BhM w a2 c1 o.behind):Calls Tryz.prog 155 #[.pointer (some ⟨b,0,none⟩),.pointer (some ⟨c,0,none⟩)] w (zf9 w k o):=by
 have HF:∀ W,Below w.heap.size w W→W.cell? ⟨b,50,none⟩=some (.int .i64 k.steps)∧W.cell? ⟨c,50,none⟩=some (.int .i64 o.steps)∧W.cell? ⟨b,48,none⟩=some (.int .i64 k.next)∧W.cell? ⟨c,48,none⟩=some (.int .i64 o.next)∧W.cell? ⟨b,49,none⟩=some (.slice a1 k.behind.length b1)∧W.cell? ⟨c,49,none⟩=some (.slice a2 o.behind.length c1):=fun W hW=>by
  have k1:=h.below hW h.lt
  have k2:=h2.below hW h2.lt
  exact⟨k1.cS,k2.cS,k1.cN,k2.cN,k1.cB,k2.cB⟩
 by_cases e1:k.steps=o.steps
 ·have t1:(k.steps != o.steps)=false:=by simpa using e1
  by_cases e2:k.next=o.next
  ·have e0:cmpK k o=cmpL k.behind o.behind:=(if_pos e1).trans (if_pos e2)
   rw [show zf9 w k o=fun e w'=>e=.returned (.int .i64 (cmpL k.behind o.behind))∧Below w.heap.size w w' by unfold zf9;rw [e0]]
   have t2:(k.next != o.next)=false:=by simpa using e2
   go_enter Tryz.func155,Tryz.ntmps155
   go_wp2
   refine zad 8 (fun W=>Below w.heap.size w W) ((Below.refl _ _).drew) (by kernel_rfl) (by kernel_rfl) ?_
   simp only [List.take_succ_cons,List.take_zero,List.drop_succ_cons,List.drop_zero]
   repeat(refine zab rfl ?_ (fun W hW=>?_) ?_;rotate_left 1;· (obtain⟨f1,f2,f3,f4,f5,f6⟩:=HF W hW;go_simp;with_reducible rfl))
   refine wpQuiet_nil ?_
   intro W1 hW1
   go_wp2
   refine zad 8 (fun W=>Below w.heap.size w W) (hW1.drew) (by kernel_rfl) (by kernel_rfl) ?_
   simp only [List.take_succ_cons,List.take_zero,List.drop_succ_cons,List.drop_zero]
   repeat(refine zab rfl ?_ (fun W hW=>?_) ?_;rotate_left 1;· (obtain⟨f1,f2,f3,f4,f5,f6⟩:=HF W hW;go_simp;with_reducible rfl))
   refine wpQuiet_nil ?_
   intro W2 hW2
   go_wp2
   refine zad 8 (fun W=>Below w.heap.size w W) (hW2.drew) (by kernel_rfl) (by kernel_rfl) ?_
   simp only [List.take_succ_cons,List.take_zero,List.drop_succ_cons,List.drop_zero]
   repeat(refine zab rfl ?_ (fun W hW=>?_) ?_;rotate_left 1;· (obtain⟨f1,f2,f3,f4,f5,f6⟩:=HF W hW;go_simp;with_reducible rfl))
   refine wpQuiet_nil ?_
   intro W3 hW3
   have hsc:=zlX a1 a2 b1 c1 k.behind o.behind (B1.below hW3) (B2.below hW3)
   go_wp2_with(go_at_call 171;(with_reducible refine hsc.mono ?_);rintro e wx ⟨rfl,hbx⟩)
   go_ret
   exact⟨rfl,hW3.trans (hbx.mono hW3.size)⟩
  ·have e0:cmpK k o=cmpI k.next o.next:=(if_pos e1).trans (if_neg e2)
   rw [show zf9 w k o=fun e w'=>e=.returned (.int .i64 (cmpI k.next o.next))∧Below w.heap.size w w' by unfold zf9;rw [e0]]
   have t2:(k.next != o.next)=true:=by simpa using e2
   go_enter Tryz.func155,Tryz.ntmps155
   go_wp2
   refine zad 8 (fun W=>Below w.heap.size w W) ((Below.refl _ _).drew) (by kernel_rfl) (by kernel_rfl) ?_
   simp only [List.take_succ_cons,List.take_zero,List.drop_succ_cons,List.drop_zero]
   repeat(refine zab rfl ?_ (fun W hW=>?_) ?_;rotate_left 1;· (obtain⟨f1,f2,f3,f4,f5,f6⟩:=HF W hW;go_simp;with_reducible rfl))
   refine wpQuiet_nil ?_
   intro W1 hW1
   go_wp2
   refine zad 8 (fun W=>Below w.heap.size w W) (hW1.drew) (by kernel_rfl) (by kernel_rfl) ?_
   simp only [List.take_succ_cons,List.take_zero,List.drop_succ_cons,List.drop_zero]
   repeat(refine zab rfl ?_ (fun W hW=>?_) ?_;rotate_left 1;· (obtain⟨f1,f2,f3,f4,f5,f6⟩:=HF W hW;go_simp;with_reducible rfl))
   refine wpQuiet_nil ?_
   intro W2 hW2
   go_wp2
   refine zad 9 (fun W=>Below w.heap.size w W) (hW2.drew) (by kernel_rfl) (by kernel_rfl) ?_
   simp only [List.take_succ_cons,List.take_zero,List.drop_succ_cons,List.drop_zero]
   repeat(refine zab rfl ?_ (fun W hW=>?_) ?_;rotate_left 1;· (obtain⟨f1,f2,f3,f4,f5,f6⟩:=HF W hW;go_simp;with_reducible rfl))
   refine zaI rfl 170 #[.int .i64 k.next,.int .i64 o.next] (.int .i64 (cmpI k.next o.next)) (fun W hW=>?_) (fun W hW=>(zk3 _ _ W).mono (fun e w' hh=>⟨hh.1,by rw [hh.2];exact hW⟩)) ?_
   ·go_simp
   refine wpQuiet_nil ?_
   intro W3 hW3
   go_wp2
   go_ret
   exact⟨rfl,hW3⟩
 ·have e0:cmpK k o=cmpI k.steps o.steps:=if_neg e1
  rw [show zf9 w k o=fun e w'=>e=.returned (.int .i64 (cmpI k.steps o.steps))∧Below w.heap.size w w' by unfold zf9;rw [e0]]
  have t1:(k.steps != o.steps)=true:=by simpa using e1
  go_enter Tryz.func155,Tryz.ntmps155
  go_wp2
  refine zad 8 (fun W=>Below w.heap.size w W) ((Below.refl _ _).drew) (by kernel_rfl) (by kernel_rfl) ?_
  simp only [List.take_succ_cons,List.take_zero,List.drop_succ_cons,List.drop_zero]
  repeat(refine zab rfl ?_ (fun W hW=>?_) ?_;rotate_left 1;· (obtain⟨f1,f2,f3,f4,f5,f6⟩:=HF W hW;go_simp;with_reducible rfl))
  refine wpQuiet_nil ?_
  intro W1 hW1
  go_wp2
  refine zad 9 (fun W=>Below w.heap.size w W) (hW1.drew) (by kernel_rfl) (by kernel_rfl) ?_
  simp only [List.take_succ_cons,List.take_zero,List.drop_succ_cons,List.drop_zero]
  repeat(refine zab rfl ?_ (fun W hW=>?_) ?_;rotate_left 1;· (obtain⟨f1,f2,f3,f4,f5,f6⟩:=HF W hW;go_simp;with_reducible rfl))
  refine zaI rfl 170 #[.int .i64 k.steps,.int .i64 o.steps] (.int .i64 (cmpI k.steps o.steps)) (fun W hW=>?_) (fun W hW=>(zk3 _ _ W).mono (fun e w' hh=>⟨hh.1,by rw [hh.2];exact hW⟩)) ?_
  ·go_simp
  refine wpQuiet_nil ?_
  intro W2 hW2
  go_wp2
  go_ret
  exact⟨rfl,hW2⟩
section
attribute [local go_sem ↓] Go.wp_at_zero Go.wp_at_succ
theorem WrM.cx{B:Nat}{w:World}{b px:Nat}{cv:Value}{code:List Int}{S:Wst}{k:Nat}{V:Nat→Value}(h:WrM B w b px cv code S k V):w.cell? ⟨b,0,none⟩=some (.pointer (some ⟨px,0,none⟩)):=by rw [←h.v0];exact h.blk.cell 0 (by omega)
theorem WrM.alloc{B:Nat}{w:World}{b px:Nat}{cv:Value}{code:List Int}{S:Wst}{k:Nat}{V:Nat→Value}(h:WrM B w b px cv code S k V)(x:Obj):WrM B (w.alloc x) b px cv code S k V:=h.below ((Below.refl _ _).alloc (Nat.le_refl _) _) h.base
theorem WrM.drewN{B:Nat}{w:World}{b px:Nat}{cv:Value}{code:List Int}{S:Wst}{k:Nat}{V:Nat→Value}(h:WrM B w b px cv code S k V)(n:Nat):WrM B (w.drewN n) b px cv code S k V:=h.below (zbD _ _ _) h.base
theorem WrM.drew{B:Nat}{w:World}{b px:Nat}{cv:Value}{code:List Int}{S:Wst}{k:Nat}{V:Nat→Value}(h:WrM B w b px cv code S k V):WrM B w.drew b px cv code S k V:=h.below (Below.refl _ _).drew h.base
theorem Hid.out2{p:Prop}(h:Hid p):p:=h
def PcPost(B:Nat)(w:World)(b px:Nat)(cv:Value)(code:List Int)(V:Nat→Value)(S:Wst)(most lab:Nat)(w':World):Prop :=
 ∃(A:List Ln) (c:Nat),Pc S.nk S.labels c A∧A.length≤most∧c≤S.labels+lab∧zd4 B w b px cv code V { S with lines:=S.lines++A,labels:=c } w'
theorem zuD{B:Nat}{w:World}{b px:Nat}{cv:Value}{code:List Int}{V:Nat→Value}{S:Wst}{w':World}{l:Ln}(hl:Plain l)(h:zd4 B w b px cv code V { S with lines:=S.lines++[l] } w'):PcPost B w b px cv code V S 2 0 w' :=
 ⟨[l],S.labels,.ins _ hl,by simp,Nat.le_refl _,h⟩
theorem zos(x:Nat){n:Int}(h:(x:Int)≤n)(hn:n≤9223372036854775807):i64 (x:Int):=⟨by omega,by omega⟩
theorem zfm(n:Nat){D:ByteArray}(h:D.size≤21)(hn:n≤1000):¬9223372036854775807<n+D.size:=by omega
theorem zhB{r:Nat}{K:Int}{A D:ByteArray}(h1:Hid (A=ba (regW r)))(h2:Hid (D=ba (digL K))):ba (setL r K).bytes=ba [9]++((⟨#[115,101,116,32]⟩:ByteArray)++A++(⟨#[32]⟩:ByteArray)++D):=by
 rw [show A=_ from h1,show D=_ from h2];exact ln2 _ _ _
theorem zwY{r:Nat}{K:Int}{A D:ByteArray}(h1:Hid (A=ba (regW r)))(h2:Hid (D=ba (digL K))):ba (incL r K).bytes=ba [9]++((⟨#[105,110,99,32]⟩:ByteArray)++A++(⟨#[32]⟩:ByteArray)++D):=by
 rw [show A=_ from h1,show D=_ from h2];exact ln2 _ _ _
theorem zjf{r q:Nat}{A D:ByteArray}(h1:Hid (A=ba (regW r)))(h2:Hid (D=ba (regW q))):ba (zm9 r q).bytes=ba [9]++((⟨#[108,111,97,100,32]⟩:ByteArray)++A++(⟨#[32]⟩:ByteArray)++D):=by
 rw [show A=_ from h1,show D=_ from h2];exact ln2 _ _ _
theorem zgN{r q:Nat}{A D:ByteArray}(h1:Hid (A=ba (regW r)))(h2:Hid (D=ba (regW q))):ba (zhk r q).bytes=ba [9]++((⟨#[115,116,111,114,101,32]⟩:ByteArray)++A++(⟨#[32]⟩:ByteArray)++D):=by
 rw [show A=_ from h1,show D=_ from h2];exact ln2 _ _ _
theorem zbU{c:Array UInt8}{A D:ByteArray}(hc:c.size≤10)(h1:A.size≤21)(h2:D.size≤21):((⟨c⟩:ByteArray)++A++(⟨#[32]⟩:ByteArray)++D).size≤1000:=by
 have e:(⟨#[32]⟩:ByteArray).size=1:=rfl
 have e2:(⟨c⟩:ByteArray).size=c.size:=rfl
 simp only [ByteArray.size_append]
 omega
theorem zgO{B:Nat}{w:World}{b px:Nat}{cv:Value}{code:List Int}{V:Nat→Value}{S1 S2:Wst}{w':World}(h:zd4 B w b px cv code V S1 w')(e:S1=S2):zd4 B w b px cv code V S2 w':=e▸h
theorem WrM.cnts{B:Nat}{w:World}{b px:Nat}{cv:Value}{code:List Int}{S:Wst}{k:Nat}{V:Nat→Value}(h:WrM B w b px cv code S k V){g cap:Nat}(hv:V 11=.slice (some ⟨g,0,none⟩) S.counts.length cap):∀ j,j<S.counts.length→w.cell? ⟨g,j,none⟩=some (.int .i64 ((S.counts.getD j 0:Nat):Int)):=fun j hj=>by
 have hc:=h.counts
 rw [hv] at hc
 refine zd2 hc j _ ?_
 rw [List.getElem?_map,List.getElem?_eq_getElem hj,List.getD_eq_getElem?_getD,List.getElem?_eq_getElem hj]
 rfl
theorem WrM.cntsLe{B:Nat}{w:World}{b px:Nat}{cv:Value}{code:List Int}{S:Wst}{k:Nat}{V:Nat→Value}(h:WrM B w b px cv code S k V){g cap:Nat}(_hv:V 11=.slice (some ⟨g,0,none⟩) S.counts.length cap):S.counts.length≤9223372036854775807:=by
 obtain⟨ao,c,e,h1,h2,_⟩:=zdE h.counts
 exact Nat.le_trans h1 (Nat.le_trans h2 (by decide))
theorem WrM.three{B:Nat}{w:World}{b px:Nat}{cv:Value}{code:List Int}{S:Wst}{k:Nat}{V:Nat→Value}(h:WrM B w b px cv code S k V){g cap:Nat}(hv:V 11=.slice (some ⟨g,0,none⟩) S.counts.length cap):w.cell? ⟨b,0,none⟩=some (.pointer (some ⟨px,0,none⟩))∧w.cell? ⟨b,11,none⟩=some (.slice (some ⟨g,0,none⟩) S.counts.length cap)∧∀ j,j<S.counts.length→w.cell? ⟨g,j,none⟩=some (.int .i64 ((S.counts.getD j 0:Nat):Int)) :=
 ⟨h.cx,by rw [←hv];exact h.blk.cell 11 (by omega),h.cnts hv⟩
theorem zwZ{B:Nat}{w:World}{b px:Nat}{cv:Value}{code:List Int}{S:Wst}{k:Nat}{V:Nat→Value}(M:WrM B w b px cv code S k V)(rf:Nat)(hrf:rf<8)(hf:S.held rf=false)(hn:S.lines.length≤10000):
  Calls Tryz.prog 95 #[.pointer (some ⟨b,0,none⟩)] w fun e w'=>(∃ n:Nat,e=.returned (.int .i64 (n:Int))∧n≤2)∧PcPost B w b px cv code V S 2 0 w':=by
 have c0:=M.cx
 have c11:=M.blk.cell 11 (by omega)
 obtain⟨ao,cap,hv⟩:=zbb M.counts
 rw [hv] at c11
 have F:=Fr.refl b px w V
 by_cases hc:S.counts.length=0
 ·rw [hc] at c11 hv
  go_enter Tryz.func95,Tryz.ntmps95
  go_wp2_with(first
   | (go_at_call 118;(with_reducible refine(zcf M rf hrf hf).mono ?_);rintro e w5 ⟨r,rfl,hr,hh,k5,V5,M5,f5⟩;have F5:=F.trans f5;have c5:=M5.cx))
  clear c0 c11 F f5
  have H1:=c5
  go_region_held3 (fun W=>W.cell? ⟨b,0,none⟩=some (.pointer (some ⟨px,0,none⟩)))
   (first
     | exact H1
     | exact H2
     | exact H3
     | exact H4
     | exact H5)
   (first
     | (go_at_call 38;(with_reducible refine(zbo r hr _).mono ?_);rintro e w6 ⟨A1,rfl,zA1,hA1,hbA1⟩;have M6:=M5.drew.below hbA1 M5.drew.base;have H2:=M6.cx;have F6:=(F5.trans (Fr.low (Below.refl _ _).drew)).trans (.low hbA1))
     | (go_at_call 41;(with_reducible refine(zax M6 16 (by omega)).mono ?_);rintro e w7 ⟨x,rfl,hx,k7,V7,M7,f7⟩;have F7:=F6.trans f7;have H3:=M7.cx;have hx64:=zos x (Int.le_of_lt hx) (by decide))
     | (go_at_call 36;(with_reducible refine(zfl (x:Int) hx64 _).mono ?_);rintro e w8 ⟨D,rfl,zD,hD,hbD⟩;have M8:=M7.below hbD M7.base;have H4:=M8.cx;have F8:=F7.trans (.low hbD);have hz7:=zfm 7 zD (by decide))
     | (go_at_call 62;(with_reducible refine(zbE M8 (setL r (x:Int)) _ (zhB hA1 hD) (zbU (by decide) (by omega) zD) (by omega)).mono ?_);rintro e w9 ⟨rfl,k9,V9,M9,f9⟩;have H5:=M9.cx;have F9:=F8.trans f9))
  have hxp:=zeG hr hx64
  have M5:=M9
  have F5:=F9
  clear H1 c5
  have c5:=M5.cx
  go_wp2_with(first
   | (go_at_call 41;(with_reducible refine(zax M5 2 (by omega)).mono ?_);rintro e w6 ⟨t,rfl,ht,k6,V6,M6,f6⟩;have F6:=F5.trans f6;refine Hid.out ?_))
  unfold Hid
  have ht2:t=0∨t=1:=by omega
  have c6:=M6.cx
  clear c5 f6
  rcases ht2 with rfl|rfl
  ·go_wp2_with(first
    | (go_at_call 118;(with_reducible refine(zcf M6 rf hrf hf).mono ?_);rintro e w7 ⟨q,rfl,hq,hh2,k7,V7,M7,f7⟩;have F7:=F6.trans f7)
    | (go_at_call 38;first
        | ((with_reducible refine(zbo q hq _).mono ?_);rintro e w8 ⟨A1,rfl,zA1,hA1,hbA1⟩;have M8:=M7.below hbA1 M7.base;have F8:=F7.trans (.low hbA1))
        | ((with_reducible refine(zbo r hr _).mono ?_);rintro e w9 ⟨A2,rfl,zA2,hA2,hbA2⟩;have M9:=M8.below hbA2 M8.base;have F9:=F8.trans (.low hbA2)))
    | (go_at_call 62;refine Hid.out ?_))
   unfold Hid
   refine(zbE M9 (zm9 q r) _ (zjf hA1 hA2) (zbU (by decide) (by omega) (by omega)) (by first|omega|(simp;omega))).mono ?_
   rintro e w10 ⟨rfl,k10,V10,M10,f10⟩
   dsimp only
   go_wp2
   go_ret
   exact⟨⟨2,rfl,by omega⟩,[setL r (x:Int)]++[zm9 q r],S.labels,.app (.ins _ hxp) (.ins _ (zgM hq hr)),by simp,Nat.le_refl _,zgO ⟨k10,V10,M10,F9.trans f10⟩ (by simp)⟩
  ·go_wp2_with(first
    | (go_at_call 38;refine Hid.out ?_))
   have H1:=c6
   go_region_held3 (fun W=>W.cell? ⟨b,0,none⟩=some (.pointer (some ⟨px,0,none⟩)))
    (first
      | exact H1
      | exact H2
      | exact H3
      | exact H4
      | exact H5)
    (first
      | (go_at_call 38;first
          | ((with_reducible refine(zbo r hr _).mono ?_);rintro e w7 ⟨A1,rfl,zA1,hA1,hbA1⟩;have M7:=M6.drew.below hbA1 M6.drew.base;have H2:=M7.cx;have F7:=(F6.trans (Fr.low (Below.refl _ _).drew)).trans (.low hbA1))
          | ((with_reducible refine(zbo q (by omega) _).mono ?_);rintro e w9 ⟨A2,rfl,zA2,hA2,hbA2⟩;have M9:=M8.below hbA2 M8.base;have H4:=M9.cx;have F9:=F8.trans (.low hbA2)))
      | (go_at_call 41;(with_reducible refine(zax M7 8 (by omega)).mono ?_);rintro e w8 ⟨q,rfl,hq,k8,V8,M8,f8⟩;have F8:=F7.trans f8;have H3:=M8.cx)
      | (go_at_call 62;(with_reducible refine(zbE M9 (zhk r q) _ (zgN hA1 hA2) (zbU (by decide) (by omega) (by omega)) (by first|omega|(simp;omega))).mono ?_);rintro e w10 ⟨rfl,k10,V10,M10,f10⟩;have H5:=M10.cx))
   go_wp2
   go_ret
   exact⟨⟨2,rfl,by omega⟩,[setL r (x:Int)]++[zhk r q],S.labels,.app (.ins _ hxp) (.ins _ (zfE hr (by omega))),by simp,Nat.le_refl _,zgO ⟨k10,V10,M10,F9.trans f10⟩ (by simp)⟩
 ·clear c11
  obtain⟨g,cap,hv,hgB,hgl⟩:=(M.counts).form (by omega)
  have c11:=M.blk.cell 11 (by omega)
  rw [hv] at c11
  have hcs:=M.cnts hv
  have hl0:¬(S.counts.length:Int)=0:=by omega
  have hl1:(0:Int)<(S.counts.length:Int):=by omega
  have hlb:S.counts.length≤9223372036854775807:=M.cntsLe hv
  go_enter Tryz.func95,Tryz.ntmps95
  go_wp2_with(first
   | (go_at_call 41;(with_reducible refine(zax M 2 (by omega)).mono ?_);rintro e w1 ⟨t,rfl,ht,k1,V1,M1,f1⟩;refine Hid.out ?_))
  unfold Hid
  have ht2:t=0∨t=1:=by omega
  rcases ht2 with rfl|rfl
  ·obtain⟨g1,cap1,hv1,_,hgl1⟩:=(M1.counts).form (by omega)
   have c1:=M1.cx
   have d1:=M1.blk.cell 11 (by omega)
   rw [hv1] at d1
   have hcs1:=M1.cnts hv1
   have H1:w1.cell? ⟨b,0,none⟩=some (.pointer (some ⟨px,0,none⟩))∧w1.cell? ⟨b,11,none⟩=some (.slice (some ⟨g1,0,none⟩) S.counts.length cap1)∧∀ j,j<S.counts.length→w1.cell? ⟨g1,j,none⟩=some (.int .i64 ((S.counts.getD j 0:Nat):Int)):=⟨c1,d1,hcs1⟩
   clear hcs c11 c0
   go_wp2_with fail
   go_region_held3 (fun W=>W.cell? ⟨b,0,none⟩=some (.pointer (some ⟨px,0,none⟩))∧W.cell? ⟨b,11,none⟩=some (.slice (some ⟨g1,0,none⟩) S.counts.length cap1)∧∀ j,j<S.counts.length→W.cell? ⟨g1,j,none⟩=some (.int .i64 ((S.counts.getD j 0:Nat):Int)))
    (first
      | exact H1
      | exact H2)
    (first
      | (go_at_call 41;(with_reducible refine(zeF M1.drew.blk.di (S.counts.length:Int) hl1).mono ?_);rintro e w2 ⟨i,rfl,hi,k2,D2,g2⟩;have M2:=M1.drew.threw D2 g2;have H2:=M2.three hv1;have hiN:i<S.counts.length:=Int.ofNat_lt.1 hi;have hi0:(0:Int)≤(i:Int):=Int.natCast_nonneg _))
   have hr:=M2.cnt8 _ (List.getElem_mem hiN)
   generalize S.counts[i]=r at hr ⊢
   have M5:=M2
   have F5:=(f1.trans (Fr.low (Below.refl _ _).drew)).trans (Fr.grown g2)
   clear H1 c1 d1 hcs1
   have c5:=M5.cx
   go_wp2_with(first
    | (go_at_call 41;(with_reducible refine(zax M5 2 (by omega)).mono ?_);rintro e w6 ⟨t,rfl,ht,k6,V6,M6,f6⟩;have F6:=F5.trans f6;refine Hid.out ?_))
   unfold Hid
   have ht2:t=0∨t=1:=by omega
   have c6:=M6.cx
   clear c5 f6
   rcases ht2 with rfl|rfl
   ·go_wp2_with(first
     | (go_at_call 118;(with_reducible refine(zcf M6 rf hrf hf).mono ?_);rintro e w7 ⟨q,rfl,hq,hh2,k7,V7,M7,f7⟩;have F7:=F6.trans f7)
     | (go_at_call 38;first
         | ((with_reducible refine(zbo q hq _).mono ?_);rintro e w8 ⟨A1,rfl,zA1,hA1,hbA1⟩;have M8:=M7.below hbA1 M7.base;have F8:=F7.trans (.low hbA1))
         | ((with_reducible refine(zbo r hr _).mono ?_);rintro e w9 ⟨A2,rfl,zA2,hA2,hbA2⟩;have M9:=M8.below hbA2 M8.base;have F9:=F8.trans (.low hbA2)))
     | (go_at_call 62;refine Hid.out ?_))
    unfold Hid
    refine(zbE M9 (zm9 q r) _ (zjf hA1 hA2) (zbU (by decide) (by omega) (by omega)) (by first|omega|(simp;omega))).mono ?_
    rintro e w10 ⟨rfl,k10,V10,M10,f10⟩
    dsimp only
    go_wp2
    go_ret
    exact⟨⟨1,rfl,by omega⟩,[zm9 q r],S.labels,(.ins _ (zgM hq hr)),by simp,Nat.le_refl _,zgO ⟨k10,V10,M10,F9.trans f10⟩ (by simp)⟩
   ·go_wp2_with(first
     | (go_at_call 38;refine Hid.out ?_))
    have H1:=c6
    go_region_held3 (fun W=>W.cell? ⟨b,0,none⟩=some (.pointer (some ⟨px,0,none⟩)))
     (first
       | exact H1
       | exact H2
       | exact H3
       | exact H4
       | exact H5)
     (first
       | (go_at_call 38;first
           | ((with_reducible refine(zbo r hr _).mono ?_);rintro e w7 ⟨A1,rfl,zA1,hA1,hbA1⟩;have M7:=M6.drew.below hbA1 M6.drew.base;have H2:=M7.cx;have F7:=(F6.trans (Fr.low (Below.refl _ _).drew)).trans (.low hbA1))
           | ((with_reducible refine(zbo q (by omega) _).mono ?_);rintro e w9 ⟨A2,rfl,zA2,hA2,hbA2⟩;have M9:=M8.below hbA2 M8.base;have H4:=M9.cx;have F9:=F8.trans (.low hbA2)))
       | (go_at_call 41;(with_reducible refine(zax M7 8 (by omega)).mono ?_);rintro e w8 ⟨q,rfl,hq,k8,V8,M8,f8⟩;have F8:=F7.trans f8;have H3:=M8.cx)
       | (go_at_call 62;(with_reducible refine(zbE M9 (zhk r q) _ (zgN hA1 hA2) (zbU (by decide) (by omega) (by omega)) (by first|omega|(simp;omega))).mono ?_);rintro e w10 ⟨rfl,k10,V10,M10,f10⟩;have H5:=M10.cx))
    go_wp2
    go_ret
    exact⟨⟨1,rfl,by omega⟩,[zhk r q],S.labels,(.ins _ (zfE hr (by omega))),by simp,Nat.le_refl _,zgO ⟨k10,V10,M10,F9.trans f10⟩ (by simp)⟩
  ·have c1:=M1.cx
   go_wp2_with(first
    | (go_at_call 118;(with_reducible refine(zcf M1 rf hrf hf).mono ?_);rintro e w5 ⟨r,rfl,hr,hh,k5,V5,M5,f5⟩;have F5:=f1.trans f5;have c5:=M5.cx))
   clear c0 c11 F f5 c1 hcs
   have H1:=c5
   go_region_held3 (fun W=>W.cell? ⟨b,0,none⟩=some (.pointer (some ⟨px,0,none⟩)))
    (first
      | exact H1
      | exact H2
      | exact H3
      | exact H4
      | exact H5)
    (first
      | (go_at_call 38;(with_reducible refine(zbo r hr _).mono ?_);rintro e w6 ⟨A1,rfl,zA1,hA1,hbA1⟩;have M6:=M5.drew.below hbA1 M5.drew.base;have H2:=M6.cx;have F6:=(F5.trans (Fr.low (Below.refl _ _).drew)).trans (.low hbA1))
      | (go_at_call 41;(with_reducible refine(zax M6 16 (by omega)).mono ?_);rintro e w7 ⟨x,rfl,hx,k7,V7,M7,f7⟩;have F7:=F6.trans f7;have H3:=M7.cx;have hx64:=zos x (Int.le_of_lt hx) (by decide))
      | (go_at_call 36;(with_reducible refine(zfl (x:Int) hx64 _).mono ?_);rintro e w8 ⟨D,rfl,zD,hD,hbD⟩;have M8:=M7.below hbD M7.base;have H4:=M8.cx;have F8:=F7.trans (.low hbD);have hz7:=zfm 7 zD (by decide))
      | (go_at_call 62;(with_reducible refine(zbE M8 (setL r (x:Int)) _ (zhB hA1 hD) (zbU (by decide) (by omega) zD) (by omega)).mono ?_);rintro e w9 ⟨rfl,k9,V9,M9,f9⟩;have H5:=M9.cx;have F9:=F8.trans f9))
   have hxp:=zeG hr hx64
   have M5:=M9
   have F5:=F9
   clear H1 c5
   have c5:=M5.cx
   go_wp2_with(first
    | (go_at_call 41;(with_reducible refine(zax M5 2 (by omega)).mono ?_);rintro e w6 ⟨t,rfl,ht,k6,V6,M6,f6⟩;have F6:=F5.trans f6;refine Hid.out ?_))
   unfold Hid
   have ht2:t=0∨t=1:=by omega
   have c6:=M6.cx
   clear c5 f6
   rcases ht2 with rfl|rfl
   ·go_wp2_with(first
     | (go_at_call 118;(with_reducible refine(zcf M6 rf hrf hf).mono ?_);rintro e w7 ⟨q,rfl,hq,hh2,k7,V7,M7,f7⟩;have F7:=F6.trans f7)
     | (go_at_call 38;first
         | ((with_reducible refine(zbo q hq _).mono ?_);rintro e w8 ⟨A1,rfl,zA1,hA1,hbA1⟩;have M8:=M7.below hbA1 M7.base;have F8:=F7.trans (.low hbA1))
         | ((with_reducible refine(zbo r hr _).mono ?_);rintro e w9 ⟨A2,rfl,zA2,hA2,hbA2⟩;have M9:=M8.below hbA2 M8.base;have F9:=F8.trans (.low hbA2)))
     | (go_at_call 62;refine Hid.out ?_))
    unfold Hid
    refine(zbE M9 (zm9 q r) _ (zjf hA1 hA2) (zbU (by decide) (by omega) (by omega)) (by first|omega|(simp;omega))).mono ?_
    rintro e w10 ⟨rfl,k10,V10,M10,f10⟩
    dsimp only
    go_wp2
    go_ret
    exact⟨⟨2,rfl,by omega⟩,[setL r (x:Int)]++[zm9 q r],S.labels,.app (.ins _ hxp) (.ins _ (zgM hq hr)),by simp,Nat.le_refl _,zgO ⟨k10,V10,M10,F9.trans f10⟩ (by simp)⟩
   ·go_wp2_with(first
     | (go_at_call 38;refine Hid.out ?_))
    have H1:=c6
    go_region_held3 (fun W=>W.cell? ⟨b,0,none⟩=some (.pointer (some ⟨px,0,none⟩)))
     (first
       | exact H1
       | exact H2
       | exact H3
       | exact H4
       | exact H5)
     (first
       | (go_at_call 38;first
           | ((with_reducible refine(zbo r hr _).mono ?_);rintro e w7 ⟨A1,rfl,zA1,hA1,hbA1⟩;have M7:=M6.drew.below hbA1 M6.drew.base;have H2:=M7.cx;have F7:=(F6.trans (Fr.low (Below.refl _ _).drew)).trans (.low hbA1))
           | ((with_reducible refine(zbo q (by omega) _).mono ?_);rintro e w9 ⟨A2,rfl,zA2,hA2,hbA2⟩;have M9:=M8.below hbA2 M8.base;have H4:=M9.cx;have F9:=F8.trans (.low hbA2)))
       | (go_at_call 41;(with_reducible refine(zax M7 8 (by omega)).mono ?_);rintro e w8 ⟨q,rfl,hq,k8,V8,M8,f8⟩;have F8:=F7.trans f8;have H3:=M8.cx)
       | (go_at_call 62;(with_reducible refine(zbE M9 (zhk r q) _ (zgN hA1 hA2) (zbU (by decide) (by omega) (by omega)) (by first|omega|(simp;omega))).mono ?_);rintro e w10 ⟨rfl,k10,V10,M10,f10⟩;have H5:=M10.cx))
    go_wp2
    go_ret
    exact⟨⟨2,rfl,by omega⟩,[setL r (x:Int)]++[zhk r q],S.labels,.app (.ins _ hxp) (.ins _ (zfE hr (by omega))),by simp,Nat.le_refl _,zgO ⟨k10,V10,M10,F9.trans f10⟩ (by simp)⟩
end
end Go.Proofs.YtfpgjkbjbbgciaaGreatDoor
