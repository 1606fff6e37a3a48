import Derived.Test.YtfpgjkbjbbgciaaGreatDoorMd35
set_option maxRecDepth 100000
set_option maxHeartbeats 8000000
namespace Go.Proofs.YtfpgjkbjbbgciaaGreatDoor
open Go.RowKit Sp
theorem zko(a b:Int)(w:World):Calls Tryz.prog 170 #[.int .i64 a,.int .i64 b] w fun e w'=>e=.returned (.int .i64 (cmpI a b))∧w'=w:=by
 by_cases h:a<b
 ·have e0:cmpI a b=-1:=if_pos h
  rw [e0]
  go_enter Tryz.func170,Tryz.ntmps170
  go_wp2
  go_ret
  exact⟨rfl,rfl⟩
 ·have hd:decide (a<b)=false:=by simpa using h
  by_cases h2:b<a
  ·have e0:cmpI a b=1:=(if_neg h).trans (if_pos h2)
   rw [e0]
   go_enter Tryz.func170,Tryz.ntmps170
   go_wp2
   go_ret
   exact⟨rfl,rfl⟩
  ·have hd2:decide (b<a)=false:=by simpa using h2
   have e0:cmpI a b=0:=(if_neg h).trans (if_neg h2)
   rw [e0]
   go_enter Tryz.func170,Tryz.ntmps170
   go_wp2
   go_ret
   exact⟨rfl,rfl⟩
def AgreeTo(xs ys:List Int)(j:Nat):Prop:=∀ i:Nat,i<j→xs[i]?=ys[i]?
theorem AgreeTo.all{xs ys:List Int}{j:Nat}(h:AgreeTo xs ys j)(h1:j=xs.length)(h2:j=ys.length):xs=ys:=by
 apply List.ext_getElem?
 intro i
 by_cases hi:i<j
 ·exact h i hi
 ·rw [List.getElem?_eq_none (by omega),List.getElem?_eq_none (by omega)]
theorem AgreeTo.succ{xs ys:List Int}{j:Nat}(h:AgreeTo xs ys j)(e:xs[j]?=ys[j]?):AgreeTo xs ys (j+1):=fun i hi=>by
 by_cases e2:i=j
 ·rw [e2];exact e
 ·exact h i (by omega)
theorem AgreeTo.cmp{xs ys:List Int}{j:Nat}(h:AgreeTo xs ys j)(h1:j≤xs.length)(h2:j≤ys.length):cmpL xs ys=cmpL (xs.drop j) (ys.drop j):=by
 induction j generalizing xs ys with
 | zero=>rfl
 | succ j ih =>
  cases xs with
  | nil=>simp at h1
  | cons a x =>
   cases ys with
   | nil=>simp at h2
   | cons b y =>
    have e:a=b:=by have:=h 0 (by omega);simpa using this
    subst e
    show(if cmpI a a=0 then cmpL x y else cmpI a a)=cmpL (x.drop j) (y.drop j)
    rw [if_pos (zlR a)]
    exact ih (fun i hi=>by have:=h (i+1) (by omega);simpa using this) (by simpa using h1) (by simpa using h2)
theorem AgreeTo.end1{xs ys:List Int}{j:Nat}(h:AgreeTo xs ys j)(h1:j=xs.length)(h2:j<ys.length):cmpL xs ys=-1:=by
 rw [h.cmp (by omega) (by omega),List.drop_of_length_le (by omega)]
 cases hd:ys.drop j with
 | nil=>have:=congrArg List.length hd;simp at this;omega
 | cons b y=>rfl
theorem AgreeTo.end2{xs ys:List Int}{j:Nat}(h:AgreeTo xs ys j)(h1:j<xs.length)(h2:j=ys.length):cmpL xs ys=1:=by
 rw [h.cmp (by omega) (by omega),List.drop_of_length_le (l:=ys) (by omega)]
 cases hd:xs.drop j with
 | nil=>have:=congrArg List.length hd;simp at this;omega
 | cons b y=>rfl
theorem AgreeTo.end3{xs ys:List Int}{j:Nat}(h:AgreeTo xs ys j)(h1:j<xs.length)(h2:j<ys.length)(hc:¬cmpI xs[j] ys[j]=0):cmpL xs ys=cmpI xs[j] ys[j]:=by
 rw [h.cmp (by omega) (by omega),List.drop_eq_getElem_cons h1,List.drop_eq_getElem_cons h2]
 show(if cmpI xs[j] ys[j]=0 then _ else _)=_
 rw [if_neg hc]
theorem BhM.addr{w:World}{ao:Option Addr}{cap:Nat}{l:List Int}(h:BhM w ao cap l)(hl:0<l.length):∃ g,ao=some ⟨g,0,none⟩:=by
 cases ao with
 | none=>obtain⟨e,_⟩:=h.nil rfl;rw [e] at hl;simp at hl
 | some a=>obtain⟨g,rfl⟩:=h.at0 a rfl;exact⟨g,rfl⟩
theorem zlT{w:World}(a1 a2:Option Addr)(c1 c2:Nat)(xs ys:List Int)(h1:BhM w a1 c1 xs)(h2:BhM w a2 c2 ys):Calls Tryz.prog 171 #[.slice a1 xs.length c1,.slice a2 ys.length c2] w fun e w'=>e=.returned (.int .i64 (cmpL xs ys))∧Below w.heap.size w w':=by
 have l1:=h1.len
 have l2:=h2.len
 go_enter Tryz.func171,Tryz.ntmps171
 go_wp2
 go_loopw [11] (fun ti wr=>∃ j:Nat,j≤xs.length∧j≤ys.length∧ti=.int .i64 (j:Int)∧AgreeTo xs ys j∧Below w.heap.size w wr) (fun ti _=>xs.length-(intOf ti).toNat)
 case atStart=>exact⟨0,by omega,by omega,rfl,fun i hi=>absurd hi (by omega),Below.refl _ _⟩
 case round =>
  obtain⟨j,hj,hj2,rfl,hA,hb⟩:=hrel
  have B1:=h1.below hb
  have B2:=h2.below hb
  have hj0:(0:Int)≤(j:Int):=by omega
  by_cases hx:j<xs.length
  ·have hx1:(j:Int)<(xs.length:Int):=by omega
   obtain⟨g1,rfl⟩:=B1.addr (by omega)
   have d1:=(B1.cell g1 rfl).2 j xs[j] (List.getElem?_eq_getElem hx)
   by_cases hy:j<ys.length
   ·have hy1:(j:Int)<(ys.length:Int):=by omega
    have hy2:decide ((ys.length:Int)≤(j:Int))=false:=by simpa using hy
    obtain⟨g2,rfl⟩:=B2.addr (by omega)
    have d2:=(B2.cell g2 rfl).2 j ys[j] (List.getElem?_eq_getElem hy)
    by_cases hc:cmpI xs[j] ys[j]=0
    ·have hcmp:=zko xs[j] ys[j]
     rw [hc] at hcmp
     go_wp2_with(go_at_call 170;(with_reducible refine(hcmp _).mono ?_);rintro e wx ⟨rfl,hww⟩;have hw2:=hww.symm;subst hw2)
     exact⟨⟨j+1,by omega,by omega,by go_num,hA.succ (by rw [List.getElem?_eq_getElem hx,List.getElem?_eq_getElem hy,zga hc]),hb⟩,by simp [intOf];omega⟩
    ·have hcmp:=zko xs[j] ys[j]
     have he:Hid (cmpL xs ys=cmpI xs[j] ys[j]):=hA.end3 hx hy hc
     generalize cmpI xs[j] ys[j]=c at hc hcmp he
     have hc2:(c != 0)=true:=by simpa using hc
     go_wp2_with(go_at_call 170;(with_reducible refine(hcmp _).mono ?_);rintro e wx ⟨rfl,hww⟩;have hw2:=hww.symm;subst hw2)
     go_ret
     exact⟨by rw [he.out];rfl,hb⟩
   ·have hy2:(ys.length:Int)≤(j:Int):=by omega
    have he:Hid (cmpL xs ys=1):=hA.end2 hx (by omega)
    go_wp2
    go_ret
    exact⟨by rw [he.out];rfl,hb⟩
  ·have hx2:decide ((j:Int)<(xs.length:Int))=false:=by simpa using hx
   by_cases hl:xs.length<ys.length
   ·have hl2:(xs.length:Int)<(ys.length:Int):=by omega
    have he:Hid (cmpL xs ys=-1):=hA.end1 (by omega) (by omega)
    go_wp2
    go_ret
    exact⟨by rw [he.out];rfl,hb⟩
   ·have hl2:decide ((xs.length:Int)<(ys.length:Int))=false:=by simpa using hl
    have he:Hid (cmpL xs ys=0):=by rw [hA.all (by omega) (by omega)];exact zlS _
    go_wp2
    go_ret
    exact⟨by rw [he.out];rfl,hb⟩
def zf6(w:World)(k o:Kn):Ending→World→Prop:=fun e w'=>e=.returned (.int .i64 (cmpK k o))∧Below w.heap.size w w'
theorem zgQ{w:World}{b c b1 c1:Nat}{a1 a2:Option Addr}{k o:Kn}(h:KnM w b (.slice a1 k.behind.length b1) k)(h2:KnM w c (.slice a2 o.behind.length c1) o)(B1:BhM w a1 b1 k.behind)(B2:BhM w a2 c1 o.behind):Calls Tryz.prog 155 #[.pointer (some ⟨b,0,none⟩),.pointer (some ⟨c,0,none⟩)] w (zf6 w k o):=by
 have HF:∀ W,Below w.heap.size w W→W.cell? ⟨b,50,none⟩=some (.int .i64 k.steps)∧W.cell? ⟨c,50,none⟩=some (.int .i64 o.steps)∧W.cell? ⟨b,48,none⟩=some (.int .i64 k.next)∧W.cell? ⟨c,48,none⟩=some (.int .i64 o.next)∧W.cell? ⟨b,49,none⟩=some (.slice a1 k.behind.length b1)∧W.cell? ⟨c,49,none⟩=some (.slice a2 o.behind.length c1):=fun W hW=>by
  have k1:=h.below hW h.lt
  have k2:=h2.below hW h2.lt
  exact⟨k1.cS,k2.cS,k1.cN,k2.cN,k1.cB,k2.cB⟩
 by_cases e1:k.steps=o.steps
 ·have t1:(k.steps != o.steps)=false:=by simpa using e1
  by_cases e2:k.next=o.next
  ·have e0:cmpK k o=cmpL k.behind o.behind:=(if_pos e1).trans (if_pos e2)
   rw [show zf6 w k o=fun e w'=>e=.returned (.int .i64 (cmpL k.behind o.behind))∧Below w.heap.size w w' by unfold zf6;rw [e0]]
   have t2:(k.next != o.next)=false:=by simpa using e2
   go_enter Tryz.func155,Tryz.ntmps155
   go_wp2
   refine zaf 8 (fun W=>Below w.heap.size w W) ((Below.refl _ _).drew) (by kernel_rfl) (by kernel_rfl) ?_
   simp only [List.take,List.drop]
   repeat(refine zab rfl ?_ (fun W hW=>?_) ?_;rotate_left 1;· (obtain⟨f1,f2,f3,f4,f5,f6⟩:=HF W hW;go_simp;with_reducible rfl))
   refine wpQuiet_nil ?_
   intro W1 hW1
   go_wp2
   refine zaf 8 (fun W=>Below w.heap.size w W) (hW1.drew) (by kernel_rfl) (by kernel_rfl) ?_
   simp only [List.take,List.drop]
   repeat(refine zab rfl ?_ (fun W hW=>?_) ?_;rotate_left 1;· (obtain⟨f1,f2,f3,f4,f5,f6⟩:=HF W hW;go_simp;with_reducible rfl))
   refine wpQuiet_nil ?_
   intro W2 hW2
   go_wp2
   refine zaf 8 (fun W=>Below w.heap.size w W) (hW2.drew) (by kernel_rfl) (by kernel_rfl) ?_
   simp only [List.take,List.drop]
   repeat(refine zab rfl ?_ (fun W hW=>?_) ?_;rotate_left 1;· (obtain⟨f1,f2,f3,f4,f5,f6⟩:=HF W hW;go_simp;with_reducible rfl))
   refine wpQuiet_nil ?_
   intro W3 hW3
   have hsc:=zlT a1 a2 b1 c1 k.behind o.behind (B1.below hW3) (B2.below hW3)
   go_wp2_with(go_at_call 171;(with_reducible refine hsc.mono ?_);rintro e wx ⟨rfl,hbx⟩)
   go_ret
   exact⟨rfl,hW3.trans (hbx.mono hW3.size)⟩
  ·have e0:cmpK k o=cmpI k.next o.next:=(if_pos e1).trans (if_neg e2)
   rw [show zf6 w k o=fun e w'=>e=.returned (.int .i64 (cmpI k.next o.next))∧Below w.heap.size w w' by unfold zf6;rw [e0]]
   have t2:(k.next != o.next)=true:=by simpa using e2
   go_enter Tryz.func155,Tryz.ntmps155
   go_wp2
   refine zaf 8 (fun W=>Below w.heap.size w W) ((Below.refl _ _).drew) (by kernel_rfl) (by kernel_rfl) ?_
   simp only [List.take,List.drop]
   repeat(refine zab rfl ?_ (fun W hW=>?_) ?_;rotate_left 1;· (obtain⟨f1,f2,f3,f4,f5,f6⟩:=HF W hW;go_simp;with_reducible rfl))
   refine wpQuiet_nil ?_
   intro W1 hW1
   go_wp2
   refine zaf 8 (fun W=>Below w.heap.size w W) (hW1.drew) (by kernel_rfl) (by kernel_rfl) ?_
   simp only [List.take,List.drop]
   repeat(refine zab rfl ?_ (fun W hW=>?_) ?_;rotate_left 1;· (obtain⟨f1,f2,f3,f4,f5,f6⟩:=HF W hW;go_simp;with_reducible rfl))
   refine wpQuiet_nil ?_
   intro W2 hW2
   go_wp2
   refine zaf 9 (fun W=>Below w.heap.size w W) (hW2.drew) (by kernel_rfl) (by kernel_rfl) ?_
   simp only [List.take,List.drop]
   repeat(refine zab rfl ?_ (fun W hW=>?_) ?_;rotate_left 1;· (obtain⟨f1,f2,f3,f4,f5,f6⟩:=HF W hW;go_simp;with_reducible rfl))
   refine zaP rfl 170 #[.int .i64 k.next,.int .i64 o.next] (.int .i64 (cmpI k.next o.next)) (fun W hW=>?_) (fun W hW=>(zko _ _ W).mono (fun e w' hh=>⟨hh.1,by rw [hh.2];exact hW⟩)) ?_
   ·go_simp
   refine wpQuiet_nil ?_
   intro W3 hW3
   go_wp2
   go_ret
   exact⟨rfl,hW3⟩
 ·have e0:cmpK k o=cmpI k.steps o.steps:=if_neg e1
  rw [show zf6 w k o=fun e w'=>e=.returned (.int .i64 (cmpI k.steps o.steps))∧Below w.heap.size w w' by unfold zf6;rw [e0]]
  have t1:(k.steps != o.steps)=true:=by simpa using e1
  go_enter Tryz.func155,Tryz.ntmps155
  go_wp2
  refine zaf 8 (fun W=>Below w.heap.size w W) ((Below.refl _ _).drew) (by kernel_rfl) (by kernel_rfl) ?_
  simp only [List.take,List.drop]
  repeat(refine zab rfl ?_ (fun W hW=>?_) ?_;rotate_left 1;· (obtain⟨f1,f2,f3,f4,f5,f6⟩:=HF W hW;go_simp;with_reducible rfl))
  refine wpQuiet_nil ?_
  intro W1 hW1
  go_wp2
  refine zaf 9 (fun W=>Below w.heap.size w W) (hW1.drew) (by kernel_rfl) (by kernel_rfl) ?_
  simp only [List.take,List.drop]
  repeat(refine zab rfl ?_ (fun W hW=>?_) ?_;rotate_left 1;· (obtain⟨f1,f2,f3,f4,f5,f6⟩:=HF W hW;go_simp;with_reducible rfl))
  refine zaP rfl 170 #[.int .i64 k.steps,.int .i64 o.steps] (.int .i64 (cmpI k.steps o.steps)) (fun W hW=>?_) (fun W hW=>(zko _ _ W).mono (fun e w' hh=>⟨hh.1,by rw [hh.2];exact hW⟩)) ?_
  ·go_simp
  refine wpQuiet_nil ?_
  intro W2 hW2
  go_wp2
  go_ret
  exact⟨rfl,hW2⟩
def znt(w:World)(k o:Kn):Ending→World→Prop:=fun e w'=>∃ x:Bool,e=.returned (.bool x)∧Below w.heap.size w w'∧(x=true→keyK k≤keyK o)∧(x=false→keyK o≤keyK k)
def zvB(w:World)(k o:Kn):Ending→World→Prop:=fun e w'=>∃ x:Bool,e=.returned (.bool x)∧Below w.heap.size w w'∧(x=true→k.next=o.next∧k.behind=o.behind∧k.steps=o.steps)∧(x=false→¬(k.next=o.next∧k.behind=o.behind∧k.steps=o.steps))
theorem zim{w:World}{b c b1 c1:Nat}{a1 a2:Option Addr}{k o:Kn}(h:KnM w b (.slice a1 k.behind.length b1) k)(h2:KnM w c (.slice a2 o.behind.length c1) o)(B1:BhM w a1 b1 k.behind)(B2:BhM w a2 c1 o.behind)(K1:KeyOk k)(K2:KeyOk o):Calls Tryz.prog 291 #[.pointer (some ⟨b,0,none⟩),.pointer (some ⟨c,0,none⟩)] w (znt w k o):=by
 obtain⟨c1',c2',c3'⟩:=zns K1 K2
 have HC:Hid ((cmpK k o<0→keyK k<keyK o)∧(cmpK k o=0→k.next=o.next∧k.behind=o.behind∧k.steps=o.steps)∧(0<cmpK k o→keyK o<keyK k)):=⟨c1',c2',c3'⟩
 have HE:Hid (k.next=o.next∧k.behind=o.behind∧k.steps=o.steps→keyK k=keyK o):=fun h=>by unfold keyK;rw [h.1,h.2.1,h.2.2]
 clear c1' c2' c3'
 go_enter Tryz.func291,Tryz.ntmps291
 go_wp2_with(go_at_call 155;(with_reducible refine(zgQ h h2 B1 B2).mono ?_);rintro e wx ⟨rfl,hbx⟩)
 go_ret
 obtain⟨d1,d2,d3⟩:=HC.out
 refine⟨_,rfl,hbx,fun e=>?_,fun e=>?_⟩
 ·have h:cmpK k o<0:=by simpa using e
  have:=d1 h;omega
 ·have h:¬cmpK k o<0:=by simpa using e
  by_cases h0:cmpK k o=0
  ·have:=HE.out (d2 h0);omega
  ·have:=d3 (by omega);omega
theorem zq1{w:World}{b c b1 c1:Nat}{a1 a2:Option Addr}{k o:Kn}(h:KnM w b (.slice a1 k.behind.length b1) k)(h2:KnM w c (.slice a2 o.behind.length c1) o)(B1:BhM w a1 b1 k.behind)(B2:BhM w a2 c1 o.behind)(K1:KeyOk k)(K2:KeyOk o):Calls Tryz.prog 141 #[.pointer (some ⟨b,0,none⟩),.pointer (some ⟨c,0,none⟩)] w (zvB w k o):=by
 obtain⟨c1',c2',c3'⟩:=zns K1 K2
 have HC:Hid ((cmpK k o=0→k.next=o.next∧k.behind=o.behind∧k.steps=o.steps)∧(k.next=o.next∧k.behind=o.behind∧k.steps=o.steps→cmpK k o=0)):=⟨c2',fun h=>ztt h.1 h.2.1 h.2.2⟩
 clear c1' c2' c3'
 go_enter Tryz.func141,Tryz.ntmps141
 go_wp2_with(go_at_call 155;(with_reducible refine(zgQ h h2 B1 B2).mono ?_);rintro e wx ⟨rfl,hbx⟩)
 go_ret
 obtain⟨d1,d2⟩:=HC.out
 exact⟨_,rfl,hbx,fun e=>d1 (by simpa using e),fun e h=>by have:=d2 h;rw [this] at e;simp at e⟩
structure Wy where
 b:Nat
 ao:Option Addr
 cap:Nat
 k:Kn
def wy0:Wy:=⟨0,none,0,kn0⟩
structure WyM(w:World)(x:Wy):Prop where
 key:KeyOk x.k
 kn:KnM w x.b (.slice x.ao x.k.behind.length x.cap) x.k
 bh:BhM w x.ao x.cap x.k.behind
theorem WyM.below{w w':World}{x:Wy}(h:WyM w x)(hb:Below w.heap.size w w'):WyM w' x:=⟨h.key,h.kn.below hb h.kn.lt,h.bh.below hb⟩
structure HpM(w:World)(H C:Nat)(xs:List Wy):Prop where
 ptr:∀(i:Nat) (x:Wy),xs[i]?=some x→w.cell? ⟨H,i,none⟩=some (.pointer (some ⟨x.b,0,none⟩))
 wy:∀ x∈xs,WyM w x
 lt:H<w.heap.size
 far:∀ x∈xs,¬x.b=H∧∀ a,x.ao=some a→¬a.block=H
 fz:∀ j,w.frozen? ⟨H,j,none⟩=false
 shape:∃ cur:Array Value,w.heap[H]?=some (.cells cur 197 (0,0))∧cur.size=C
theorem HpM.below{w w':World}{H C:Nat}{xs:List Wy}(h:HpM w H C xs)(hb:Below w.heap.size w w'):HpM w' H C xs :=
 ⟨fun i x hx=>(World.cell?_of_block (a:=⟨H,i,none⟩) (hb.block H h.lt)).trans (h.ptr i x hx),fun x hx=>(h.wy x hx).below hb,Nat.lt_of_lt_of_le h.lt hb.size,h.far,fun j=>(World.frozen?_of_block (a:=⟨H,j,none⟩) (hb.block H h.lt)).trans (h.fz j),by obtain⟨cur,h1,h2⟩:=h.shape;exact⟨cur,(hb.block H h.lt).trans h1,h2⟩⟩
theorem HpM.at'{w:World}{H C:Nat}{xs:List Wy}(h:HpM w H C xs){i:Nat}(hi:i<xs.length):w.cell? ⟨H,i,none⟩=some (.pointer (some ⟨(xs.getD i wy0).b,0,none⟩))∧WyM w (xs.getD i wy0):=by
 have e:xs.getD i wy0=xs[i]:=by simp [List.getD,hi]
 rw [e]
 exact⟨h.ptr i _ (List.getElem?_eq_getElem hi),h.wy _ (List.getElem_mem hi)⟩
def stp(xs:List Wy)(i:Nat):Int:=keyK (xs.getD i wy0).k
theorem zin (v:Value) (w:World):(method 422 197 v "Before").run Tryz.prog w=.ok (291,v) w:=by kernel_rfl
theorem zgR(args:Array Value)(w:World):(callFunc 291 args).run Tryz.prog w=.ok (.enter 291 args) w:=by kernel_rfl
def zlU(w:World)(xs:List Wy)(a:Nat):Ending→World→Prop:=fun e w'=>∃ m:Nat,e=.returned (.int .i64 (m:Int))∧Below w.heap.size w w'∧m<xs.length∧(m=a∨m=2*a+1∨m=2*a+2)∧stp xs m≤stp xs a∧(2*a+1<xs.length→stp xs m≤stp xs (2*a+1))∧(2*a+2<xs.length→stp xs m≤stp xs (2*a+2))
theorem ztv{w:World}{H C cap:Nat}{xs:List Wy}(h:HpM w H C xs)(a:Nat)(ha:a<xs.length)(hn:xs.length≤100000):Calls Tryz.prog 169 #[.slice (some ⟨H,0,none⟩) xs.length cap,.int .i64 (a:Int)] w (zlU w xs a):=by
 have hmeth:=zin
 have hcf:=zgR
 have a0:(0:Int)≤(a:Int):=by omega
 have a1:(a:Int)≤100000:=by omega
 go_enter Tryz.func169,Tryz.ntmps169
 go_wp2
 go_loopw [5,6] (fun tl tb wr=>∃ m q:Nat,tl=.int .i64 (m:Int)∧tb=.int .i64 (q:Int)∧2*a+1≤q∧q≤2*a+3∧m<xs.length∧(m=a∨2*a+1≤m∧m<q)∧stp xs m≤stp xs a∧(∀ c,2*a+1≤c→c<q→c<xs.length→stp xs m≤stp xs c)∧Below w.heap.size w wr) (fun _ tb _=>2*a+3-(intOf tb).toNat)
 case atStart=>exact⟨a,2*a+1,rfl,by go_num,by omega,by omega,ha,.inl rfl,Int.le_refl _,fun c h1 h2=>by omega,Below.refl _ _⟩
 case round =>
  obtain⟨m,q,rfl,rfl,q0,q1,hm,hmq,hma,hall,hb⟩:=hrel
  have m0:(0:Int)≤(m:Int):=by omega
  have m1:(m:Int)<(xs.length:Int):=by omega
  have p0:(0:Int)≤(q:Int):=by omega
  by_cases hgo:q≤2*a+2∧q<xs.length
  ·obtain⟨g1,g2⟩:=hgo
   have g1':(q:Int)≤2*(a:Int)+2:=by omega
   have g2':(q:Int)<(xs.length:Int):=by omega
   have HF:∀ W,Below w.heap.size w W→W.cell? ⟨H,q,none⟩=some (.pointer (some ⟨(xs.getD q wy0).b,0,none⟩))∧W.cell? ⟨H,m,none⟩=some (.pointer (some ⟨(xs.getD m wy0).b,0,none⟩)):=fun W hW=>⟨((h.below hW).at' g2).1,((h.below hW).at' hm).1⟩
   have HB:∀ W,Below w.heap.size w W→Calls Tryz.prog 291 #[.pointer (some ⟨(xs.getD q wy0).b,0,none⟩),.pointer (some ⟨(xs.getD m wy0).b,0,none⟩)] W (znt W (xs.getD q wy0).k (xs.getD m wy0).k):=fun W hW=>by
    have w1:=((h.below hW).at' g2).2
    have w2:=((h.below hW).at' hm).2
    exact zim w1.kn w2.kn w1.bh w2.bh w1.key w2.key
   generalize hxq:xs.getD q wy0=xq at HF HB
   generalize hxm:xs.getD m wy0=xm at HF HB
   go_wp2
   refine zaf 9 (fun W=>Below w.heap.size w W) hb.drew (by kernel_rfl) (by kernel_rfl) ?_
   simp only [List.take,List.drop]
   iterate 9 (refine zab rfl ?_ (fun W hW=>?_) ?_;rotate_left 1;· (obtain⟨f1,f2⟩:=HF W hW;go_simp;with_reducible rfl))
   refine wpQuiet_nil ?_
   intro W hW
   have hbf:=HB W hW
   go_wp2_with(go_at_call 291;(with_reducible refine hbf.mono ?_);rintro e wx ⟨x,rfl,hbx,x1,x2⟩)
   ·rename_i hx
    have hle:stp xs q≤stp xs m:=by unfold stp;rw [hxm,hxq];exact x1 (by simpa using hx)
    refine⟨⟨q,q+1,rfl,by go_num,by omega,by omega,g2,by omega,by omega,fun c c1 c2 c3=>?_,hW.trans (hbx.mono hW.size)⟩,by simp [intOf];omega⟩
    by_cases e:c=q
    ·rw [e];exact Int.le_refl _
    ·have:=hall c c1 (by omega) c3;omega
   ·rename_i hx
    have hle:stp xs m≤stp xs q:=by unfold stp;rw [hxm,hxq];exact x2 (by simpa using hx)
    refine⟨⟨m,q+1,rfl,by go_num,by omega,by omega,hm,by omega,hma,fun c c1 c2 c3=>?_,hW.trans (hbx.mono hW.size)⟩,by simp [intOf];omega⟩
    by_cases e:c=q
    ·rw [e];exact hle
    ·exact hall c c1 (by omega) c3
  ·have hend:zlU w xs a (.returned (.int .i64 (m:Int))) wr:=⟨m,rfl,hb,hm,by omega,hma,fun c=>hall _ (by omega) (by omega) c,fun c=>hall _ (by omega) (by omega) c⟩
   by_cases g1:q≤2*a+2
   ·have g1':(q:Int)≤2*(a:Int)+2:=by omega
    have g2:¬q<xs.length:=by omega
    have g2':decide ((q:Int)<(xs.length:Int))=false:=by simpa using g2
    clear hall
    go_wp2
    go_ret
    exact hend
   ·have g1':decide ((q:Int)≤2*(a:Int)+2)=false:=by simpa using (by omega:¬(q:Int)≤2*(a:Int)+2)
    clear hall
    go_wp2
    go_ret
    exact hend
theorem WyM.other{w:World}{x:Wy}{H n:Nat}{v:Value}(h:WyM w x)(h1:¬x.b=H)(h2:∀ a,x.ao=some a→¬a.block=H):WyM (w.setCell ⟨H,n,none⟩ v) x :=
 ⟨h.key,h.kn.block (Below.heap_setCell w _ _ x.b h1),h.bh.kept (by rw [World.size_setCell];exact Nat.le_refl _) (fun g e=>Below.heap_setCell w _ _ g (h2 _ e))⟩
theorem HpM.swap{w:World}{H C:Nat}{xs:List Wy}(h:HpM w H C xs){i j:Nat}(hi:i<xs.length)(hj:j<xs.length)(hne:¬i=j):
  HpM ((w.setCell ⟨H,i,none⟩ (.pointer (some ⟨(xs.getD j wy0).b,0,none⟩))).setCell ⟨H,j,none⟩ (.pointer (some ⟨(xs.getD i wy0).b,0,none⟩))) H C (zek wy0 xs i j):=by
 have hp:=zg5 (d:=wy0) hi hj
 have hm:∀ x,x∈zek wy0 xs i j→x∈xs:=fun x hx=>hp.mem_iff.1 hx
 refine⟨fun q x hx=>?_,fun x hx=>?_,by rw [World.size_setCell,World.size_setCell];exact h.lt,fun x hx=>h.far x (hm x hx),fun q=>zbI _ _ _ _ _ (zbI _ _ _ _ _ (h.fz q)),?_⟩
 ·have hq:q<(zek wy0 xs i j).length:=(List.getElem?_eq_some_iff.1 hx).1
  have e1:(zek wy0 xs i j).getD q wy0=x:=by simp [List.getD,hx]
  rw [zoK hi hj hne] at e1
  rw [ztp] at hq
  have c1:(w.setCell ⟨H,i,none⟩ (.pointer (some ⟨(xs.getD j wy0).b,0,none⟩))).cell? ⟨H,j,none⟩=some (.pointer (some ⟨(xs.getD j wy0).b,0,none⟩)):=by
   rw [zan w H i j _ _ (h.at' hi).1,if_neg (fun e=>hne e.symm)];exact(h.at' hj).1
  rw [zan _ H j q _ _ c1]
  by_cases e2:q=j
  ·rw [if_pos e2]
   rw [if_neg (fun e=>hne (e.symm.trans e2)),if_pos e2] at e1
   rw [e1]
  ·rw [if_neg e2,zan w H i q _ _ (h.at' hi).1]
   by_cases e3:q=i
   ·rw [if_pos e3]
    rw [if_pos e3] at e1
    rw [e1]
   ·rw [if_neg e3]
    rw [if_neg e3,if_neg e2] at e1
    rw [←e1]
    exact(h.at' hq).1
 ·obtain⟨f1,f2⟩:=h.far x (hm x hx)
  exact((h.wy x (hm x hx)).other f1 f2).other f1 f2
 ·obtain⟨cur,h1,h2⟩:=h.shape
  exact⟨_,heap_setCell_same _ H j _ 197 _ (heap_setCell_same _ H i _ 197 _ h1),by simpa using h2⟩
theorem HpM.drew{w:World}{H C:Nat}{xs:List Wy}(h:HpM w H C xs):HpM w.drew H C xs:=h.below (Below.refl _ _).drew
def zkp(w:World)(H C:Nat)(xs:List Wy):Ending→World→Prop:=fun e w'=>e=.returned (.tuple #[])∧∃ ys,ys.Perm xs∧HpM w' H C ys∧HpAll (stp ys) ys.length∧w.grownBy w' (some H)
theorem zvC{w:World}{H C cap n:Nat}{xs:List Wy}(h:HpM w H C xs)(hl:xs.length=n)(a:Nat)(ha:a<n)(hn:n≤100000)(hR:RiseI (stp xs) n a):Calls Tryz.prog 153 #[.slice (some ⟨H,0,none⟩) n cap,.int .i64 (a:Int)] w (zkp w H C xs):=by
 have hmeth:=zin
 have hcf:=zgR
 have L0:∃ ys:List Wy,ys.Perm xs∧HpM w H C ys∧RiseI (stp ys) n a∧w.grownBy w (some H):=⟨xs,List.Perm.refl _,h,hR,⟨rfl,rfl,rfl,Nat.le_refl _,fun _ _ _=>rfl⟩⟩
 have HN:Hid (xs.length=n):=hl
 clear hl h hR
 go_enter Tryz.func153,Tryz.ntmps153
 go_wp2
 go_loopw [1] (fun ti wr=>∃ a:Nat,ti=.int .i64 (a:Int)∧a<n∧∃ ys:List Wy,ys.Perm xs∧HpM wr H C ys∧RiseI (stp ys) n a∧w.grownBy wr (some H)) (fun ti _=>(intOf ti).toNat)
 case atStart=>exact⟨a,rfl,ha,L0⟩
 case round =>
  obtain⟨a,rfl,ha,ys,hp,hM,hR,hg⟩:=hrel
  clear L0
  have hl:ys.length=n:=hp.length_eq.trans HN.out
  by_cases h0:a=0
  ·subst h0
   go_wp2
   exact bodyPost_end (results_none rfl _ _ _) rfl ⟨rfl,ys,hp,hM,by rw [hl];exact hR.done (.inl rfl),hg⟩
  ·have h1:(0:Int)<(a:Int):=by omega
   have hq:(((a:Int)-1).tdiv 2)=(((a-1)/2:Nat):Int):=by rw [Int.tdiv_eq_ediv_of_nonneg (by omega)];omega
   have hup:(a-1)/2<n:=by omega
   generalize hu:(a-1)/2=u at hq hup
   have u0:(0:Int)≤(u:Int):=by omega
   have u1:(u:Int)<(n:Int):=by omega
   have a1:(a:Int)<(n:Int):=by omega
   have a2:(n:Int)≤100000:=by omega
   have hay:a<ys.length:=by omega
   have huy:u<ys.length:=by omega
   have hau:¬a=u:=by omega
   have HF:∀ W,Below wr.heap.size wr W→W.cell? ⟨H,a,none⟩=some (.pointer (some ⟨(ys.getD a wy0).b,0,none⟩))∧W.cell? ⟨H,u,none⟩=some (.pointer (some ⟨(ys.getD u wy0).b,0,none⟩)):=fun W hW=>⟨((hM.below hW).at' hay).1,((hM.below hW).at' huy).1⟩
   have HB:∀ W,Below wr.heap.size wr W→Calls Tryz.prog 291 #[.pointer (some ⟨(ys.getD a wy0).b,0,none⟩),.pointer (some ⟨(ys.getD u wy0).b,0,none⟩)] W (znt W (ys.getD a wy0).k (ys.getD u wy0).k):=fun W hW=>by
    have w1:=((hM.below hW).at' hay).2
    have w2:=((hM.below hW).at' huy).2
    exact zim w1.kn w2.kn w1.bh w2.bh w1.key w2.key
   have HS:∀ W,Below wr.heap.size wr W→HpM ((W.setCell ⟨H,a,none⟩ (.pointer (some ⟨(ys.getD u wy0).b,0,none⟩))).setCell ⟨H,u,none⟩ (.pointer (some ⟨(ys.getD a wy0).b,0,none⟩))) H C (zek wy0 ys a u):=fun W hW=>(hM.below hW).swap hay huy hau
   have hsa:stp ys a=keyK (ys.getD a wy0).k:=rfl
   have hsu:stp ys u=keyK (ys.getD u wy0).k:=rfl
   have hfz:∀ W j,Below wr.heap.size wr W→W.frozen? ⟨H,j,none⟩=false:=fun W j hW=>(hM.below hW).fz j
   generalize ys.getD a wy0=xa at HF HB HS hsa
   generalize ys.getD u wy0=xu at HF HB HS hsu
   go_wp2
   refine zaf 9 (fun W=>Below wr.heap.size wr W) (Below.refl _ _).drew (by kernel_rfl) (by kernel_rfl) ?_
   simp only [List.take,List.drop]
   iterate 9 (refine zab rfl ?_ (fun W hW=>?_) ?_;rotate_left 1;· (obtain⟨f1,f2⟩:=HF W hW;go_simp;with_reducible rfl))
   refine wpQuiet_nil ?_
   intro W hW
   have hbf:=HB W hW
   go_wp2_with(go_at_call 291;(with_reducible refine hbf.mono ?_);rintro e wx ⟨x,rfl,hbx,x1,x2⟩;have hX:Below wr.heap.size wr wx:=hW.trans (hbx.mono hW.size))
   ·have hx0:(!x)=true:=by assumption
    have hx:x=false:=by simpa using hx0
    have hle:stp ys u≤stp ys a:=by rw [hsa,hsu];exact x2 hx
    rw [←hu] at hle
    refine bodyPost_ret (results_none rfl _ _ _) rfl ⟨rfl,ys,hp,hM.below hX,by rw [hl];exact hR.done (.inr hle),zag hg (zaQ hX)⟩
   ·have hx0:(!x)=false:=by assumption
    have hx:x=true:=by simpa using hx0
    obtain⟨c1,c2⟩:=HF wx hX
    have z1:=hfz wx a hX
    have z2:=hfz wx u hX
    have HS2:=HS wx hX
    have hle:stp ys a≤stp ys u:=by rw [hsa,hsu];exact x1 hx
    rw [←hu] at hle
    have hR2:=hR.step (by omega) ha hle
    rw [hu] at hR2
    have hR3:RiseI (stp (zek wy0 ys a u)) n u:=by
     have e:stp (zek wy0 ys a u)=znq (stp ys) a u:=ztq hay huy hau (fun x=>keyK x.k)
     rw [e]
     exact hR2
    clear HF HB HS hfz hle hR2
    go_region
    all_goals go_wp2
    all_goals exact⟨⟨u,rfl,hup,zek wy0 ys a u,(zg5 hay huy).trans hp,HS2.drew,hR3,zby (zag hg (zag (zac hX) (zac (Below.refl _ _))))⟩,by simp [intOf];omega⟩
end Go.Proofs.YtfpgjkbjbbgciaaGreatDoor
