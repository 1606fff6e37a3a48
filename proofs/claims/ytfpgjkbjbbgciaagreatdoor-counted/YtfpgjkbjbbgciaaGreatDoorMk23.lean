import Derived.Test.YtfpgjkbjbbgciaaGreatDoorMk19
import Derived.Test.YtfpgjkbjbbgciaaGreatDoorMk20
set_option maxRecDepth 100000
set_option maxHeartbeats 8000000
namespace Go.Proofs.YtfpgjkbjbbgciaaGreatDoor
open Go.RowKit Sp
theorem zkN(a b:Int)(w:World):Calls Tryz.prog 170 #[.int .i64 a,.int .i64 b] w fun e w'=>e=.returned (.int .i64 (cmpI a b))∧w'=w:=by
 by_cases h:a<b
 ·have d:cmpI a b=-1:=if_pos h;rw [d];go_enter Tryz.func170,Tryz.ntmps170;go_wp2;go_ret;exact⟨rfl,rfl⟩
 ·have hd:decide (a<b)=false:=by simpa using h
  by_cases c:b<a
  ·have d:cmpI a b=1:=(if_neg h).trans (if_pos c);rw [d];go_enter Tryz.func170,Tryz.ntmps170;go_wp2;go_ret;exact⟨rfl,rfl⟩
  ·have hd2:decide (b<a)=false:=by simpa using c
   have d:cmpI a b=0:=(if_neg h).trans (if_neg c);rw [d];go_enter Tryz.func170,Tryz.ntmps170;go_wp2;go_ret;exact⟨rfl,rfl⟩
def AgreeTo(xs ys:List Int)(j:Nat):Prop:=∀ i:Nat,i<j→xs[i]?=ys[i]?
theorem AgreeTo.all{xs ys:List Int}{j:Nat}(h:AgreeTo xs ys j)(h1:j=xs.length)(h2:j=ys.length):xs=ys:=by
 apply List.ext_getElem?;intro i;by_cases a:i<j
 ·exact h i a
 ·rw [List.getElem?_eq_none (by omega),List.getElem?_eq_none (by omega)]
theorem AgreeTo.succ{xs ys:List Int}{j:Nat}(h:AgreeTo xs ys j)(e:xs[j]?=ys[j]?):AgreeTo xs ys (j+1):=fun i hi=>by
 by_cases e2:i=j
 ·rw [e2];exact e
 ·exact h i (by omega)
theorem AgreeTo.cmp{xs ys:List Int}{j:Nat}(h:AgreeTo xs ys j)(h1:j≤xs.length)(h2:j≤ys.length):cmpL xs ys=cmpL (xs.drop j) (ys.drop j):=by
 induction j generalizing xs ys with
 | zero=>rfl
 | succ j ih =>
  cases xs with
  | nil=>simp at h1
  | cons a x =>
   cases ys with
   | nil=>simp at h2
   | cons b y =>
    have e:a=b:=by have:=h 0 (by omega);simpa using this
    subst e;show(if cmpI a a=0 then cmpL x y else cmpI a a)=cmpL (x.drop j) (y.drop j);rw [if_pos (zmu a)];exact ih (fun i hi=>by have:=h (i+1) (by omega);simpa using this) (by simpa using h1) (by simpa using h2)
theorem AgreeTo.end1{xs ys:List Int}{j:Nat}(h:AgreeTo xs ys j)(h1:j=xs.length)(h2:j<ys.length):cmpL xs ys=-1:=by
 rw [h.cmp (by omega) (by omega),List.drop_of_length_le (by omega)];cases hd:ys.drop j with
 | nil=>have:=congrArg List.length hd;simp at this;omega
 | cons b y=>rfl
theorem AgreeTo.end2{xs ys:List Int}{j:Nat}(h:AgreeTo xs ys j)(h1:j<xs.length)(h2:j=ys.length):cmpL xs ys=1:=by
 rw [h.cmp (by omega) (by omega),List.drop_of_length_le (l:=ys) (by omega)];cases hd:xs.drop j with
 | nil=>have:=congrArg List.length hd;simp at this;omega
 | cons b y=>rfl
theorem AgreeTo.end3{xs ys:List Int}{j:Nat}(h:AgreeTo xs ys j)(h1:j<xs.length)(h2:j<ys.length)(hc:¬cmpI xs[j] ys[j]=0):cmpL xs ys=cmpI xs[j] ys[j]:=by
 rw [h.cmp (by omega) (by omega),List.drop_eq_getElem_cons h1,List.drop_eq_getElem_cons h2];show(if cmpI xs[j] ys[j]=0 then _ else _)=_;rw [if_neg hc]
theorem BhM.addr{w:World}{ao:Option Addr}{cap:Nat}{l:List Int}(h:BhM w ao cap l)(hl:0<l.length):∃ g,ao=some ⟨g,0,none⟩:=by
 cases ao with
 | none=>obtain⟨e,_⟩:=h.nil rfl;rw [e] at hl;simp at hl
 | some a=>obtain⟨g,rfl⟩:=h.at0 a rfl;exact⟨g,rfl⟩
theorem zmw{w:World}(a1 a2:Option Addr)(c1 c2:Nat)(xs ys:List Int)(h1:BhM w a1 c1 xs)(h2:BhM w a2 c2 ys):Calls Tryz.prog 171 #[.slice a1 xs.length c1,.slice a2 ys.length c2] w fun e w'=>e=.returned (.int .i64 (cmpL xs ys))∧Below w.heap.size w w':=by
 have l1:=h1.len;have l2:=h2.len;go_enter Tryz.func171,Tryz.ntmps171;go_wp2
 go_loopw [11] (fun ti wr=>∃ j:Nat,j≤xs.length∧j≤ys.length∧ti=.int .i64 (j:Int)∧AgreeTo xs ys j∧Below w.heap.size w wr) (fun ti _=>xs.length-(intOf ti).toNat)
 case atStart=>exact⟨0,by omega,by omega,rfl,fun i hi=>absurd hi (by omega),Below.refl _ _⟩
 case round =>
  obtain⟨j,hj,hj2,rfl,h,b⟩:=hrel;have p:=h1.below b;have q:=h2.below b;have hj0:(0:Int)≤(j:Int):=by omega
  by_cases g:j<xs.length
  ·have hx1:(j:Int)<(xs.length:Int):=by omega
   obtain⟨r,rfl⟩:=p.addr (by omega);have d1:=(p.cell r rfl).2 j xs[j] (List.getElem?_eq_getElem g);by_cases m:j<ys.length
   ·have hy1:(j:Int)<(ys.length:Int):=by omega
    have o:decide ((ys.length:Int)≤(j:Int))=false:=by simpa using m
    obtain⟨s,rfl⟩:=q.addr (by omega);have d2:=(q.cell s rfl).2 j ys[j] (List.getElem?_eq_getElem m);by_cases k:cmpI xs[j] ys[j]=0
    ·have a:=zkN xs[j] ys[j];rw [k] at a;go_wp2_with(go_at_call 170;(with_reducible refine(a _).mono ?_);rintro e u ⟨rfl,f⟩;have d:=f.symm;subst d)
     exact⟨⟨j+1,by omega,by omega,by go_num,h.succ (by rw [List.getElem?_eq_getElem g,List.getElem?_eq_getElem m,zgb k]),b⟩,by simp [intOf];omega⟩
    ·have a:=zkN xs[j] ys[j];have l:Hid (cmpL xs ys=cmpI xs[j] ys[j]):=h.end3 g m k;generalize cmpI xs[j] ys[j]=c at k a l;have hc2:(c != 0)=true:=by simpa using k
     go_wp2_with(go_at_call 170;(with_reducible refine(a _).mono ?_);rintro e u ⟨rfl,f⟩;have d:=f.symm;subst d)
     go_ret;exact⟨by rw [l.out];rfl,b⟩
   ·have o:(ys.length:Int)≤(j:Int):=by omega
    have l:Hid (cmpL xs ys=1):=h.end2 g (by omega);go_wp2;go_ret;exact⟨by rw [l.out];rfl,b⟩
  ·have hx2:decide ((j:Int)<(xs.length:Int))=false:=by simpa using g
   by_cases t:xs.length<ys.length
   ·have n:(xs.length:Int)<(ys.length:Int):=by omega
    have l:Hid (cmpL xs ys=-1):=h.end1 (by omega) (by omega);go_wp2;go_ret;exact⟨by rw [l.out];rfl,b⟩
   ·have n:decide ((xs.length:Int)<(ys.length:Int))=false:=by simpa using t
    have l:Hid (cmpL xs ys=0):=by rw [h.all (by omega) (by omega)];exact zmv _
    go_wp2;go_ret;exact⟨by rw [l.out];rfl,b⟩
def zf4(w:World)(k o:Kn):Ending→World→Prop:=fun e w'=>e=.returned (.int .i64 (cmpK k o))∧Below w.heap.size w w'
theorem zhh{w:World}{b c b1 c1:Nat}{a1 a2:Option Addr}{k o:Kn}(h:KnM w b (.slice a1 k.behind.length b1) k)(h2:KnM w c (.slice a2 o.behind.length c1) o)(B1:BhM w a1 b1 k.behind)(B2:BhM w a2 c1 o.behind):Calls Tryz.prog 155 #[.pointer (some ⟨b,0,none⟩),.pointer (some ⟨c,0,none⟩)] w (zf4 w k o):=by
 have g:∀ W,Below w.heap.size w W→W.cell? ⟨b,50,none⟩=some (.int .i64 k.steps)∧W.cell? ⟨c,50,none⟩=some (.int .i64 o.steps)∧W.cell? ⟨b,48,none⟩=some (.int .i64 k.next)∧W.cell? ⟨c,48,none⟩=some (.int .i64 o.next)∧W.cell? ⟨b,49,none⟩=some (.slice a1 k.behind.length b1)∧W.cell? ⟨c,49,none⟩=some (.slice a2 o.behind.length c1):=fun W hW=>by
  have u:=h.below hW h.lt;have v:=h2.below hW h2.lt;exact⟨u.cS,v.cS,u.cN,v.cN,u.cB,v.cB⟩
 by_cases q:k.steps=o.steps
 ·have B:(k.steps != o.steps)=false:=by simpa using q
  by_cases r:k.next=o.next
  ·have z:cmpK k o=cmpL k.behind o.behind:=(if_pos q).trans (if_pos r);rw [show zf4 w k o=fun e w'=>e=.returned (.int .i64 (cmpL k.behind o.behind))∧Below w.heap.size w w' by unfold zf4;rw [z]];have C:(k.next != o.next)=false:=by simpa using r
   go_enter Tryz.func155,Tryz.ntmps155;go_wp2;refine zad 8 (fun W=>Below w.heap.size w W) ((Below.refl _ _).drew) (by kernel_rfl) (by kernel_rfl) ?_;simp only [List.take_succ_cons,List.take_zero,List.drop_succ_cons,List.drop_zero];repeat(refine zab rfl ?_ (fun W hW=>?_) ?_;rotate_left 1;· (obtain⟨i,j,l,m,n,p⟩:=g W hW;go_simp;with_reducible rfl))
   refine wpQuiet_nil ?_;intro x d;go_wp2;refine zad 8 (fun W=>Below w.heap.size w W) (d.drew) (by kernel_rfl) (by kernel_rfl) ?_;simp only [List.take_succ_cons,List.take_zero,List.drop_succ_cons,List.drop_zero];repeat(refine zab rfl ?_ (fun W hW=>?_) ?_;rotate_left 1;· (obtain⟨i,j,l,m,n,p⟩:=g W hW;go_simp;with_reducible rfl))
   refine wpQuiet_nil ?_;intro y f;go_wp2;refine zad 8 (fun W=>Below w.heap.size w W) (f.drew) (by kernel_rfl) (by kernel_rfl) ?_;simp only [List.take_succ_cons,List.take_zero,List.drop_succ_cons,List.drop_zero];repeat(refine zab rfl ?_ (fun W hW=>?_) ?_;rotate_left 1;· (obtain⟨i,j,l,m,n,p⟩:=g W hW;go_simp;with_reducible rfl))
   refine wpQuiet_nil ?_;intro A a;have t:=zmw a1 a2 b1 c1 k.behind o.behind (B1.below a) (B2.below a);go_wp2_with(go_at_call 171;(with_reducible refine t.mono ?_);rintro e wx ⟨rfl,s⟩)
   go_ret;exact⟨rfl,a.trans (s.mono a.size)⟩
  ·have z:cmpK k o=cmpI k.next o.next:=(if_pos q).trans (if_neg r);rw [show zf4 w k o=fun e w'=>e=.returned (.int .i64 (cmpI k.next o.next))∧Below w.heap.size w w' by unfold zf4;rw [z]];have C:(k.next != o.next)=true:=by simpa using r
   go_enter Tryz.func155,Tryz.ntmps155;go_wp2;refine zad 8 (fun W=>Below w.heap.size w W) ((Below.refl _ _).drew) (by kernel_rfl) (by kernel_rfl) ?_;simp only [List.take_succ_cons,List.take_zero,List.drop_succ_cons,List.drop_zero];repeat(refine zab rfl ?_ (fun W hW=>?_) ?_;rotate_left 1;· (obtain⟨i,j,l,m,n,p⟩:=g W hW;go_simp;with_reducible rfl))
   refine wpQuiet_nil ?_;intro x d;go_wp2;refine zad 8 (fun W=>Below w.heap.size w W) (d.drew) (by kernel_rfl) (by kernel_rfl) ?_;simp only [List.take_succ_cons,List.take_zero,List.drop_succ_cons,List.drop_zero];repeat(refine zab rfl ?_ (fun W hW=>?_) ?_;rotate_left 1;· (obtain⟨i,j,l,m,n,p⟩:=g W hW;go_simp;with_reducible rfl))
   refine wpQuiet_nil ?_;intro y f;go_wp2;refine zad 9 (fun W=>Below w.heap.size w W) (f.drew) (by kernel_rfl) (by kernel_rfl) ?_;simp only [List.take_succ_cons,List.take_zero,List.drop_succ_cons,List.drop_zero];repeat(refine zab rfl ?_ (fun W hW=>?_) ?_;rotate_left 1;· (obtain⟨i,j,l,m,n,p⟩:=g W hW;go_simp;with_reducible rfl))
   refine zaJ rfl 170 #[.int .i64 k.next,.int .i64 o.next] (.int .i64 (cmpI k.next o.next)) (fun W hW=>?_) (fun W hW=>(zkN _ _ W).mono (fun e w' hh=>⟨hh.1,by rw [hh.2];exact hW⟩)) ?_
   ·go_simp
   refine wpQuiet_nil ?_;intro A a;go_wp2;go_ret;exact⟨rfl,a⟩
 ·have z:cmpK k o=cmpI k.steps o.steps:=if_neg q;rw [show zf4 w k o=fun e w'=>e=.returned (.int .i64 (cmpI k.steps o.steps))∧Below w.heap.size w w' by unfold zf4;rw [z]];have B:(k.steps != o.steps)=true:=by simpa using q
  go_enter Tryz.func155,Tryz.ntmps155;go_wp2;refine zad 8 (fun W=>Below w.heap.size w W) ((Below.refl _ _).drew) (by kernel_rfl) (by kernel_rfl) ?_;simp only [List.take_succ_cons,List.take_zero,List.drop_succ_cons,List.drop_zero];repeat(refine zab rfl ?_ (fun W hW=>?_) ?_;rotate_left 1;· (obtain⟨i,j,l,m,n,p⟩:=g W hW;go_simp;with_reducible rfl))
  refine wpQuiet_nil ?_;intro x d;go_wp2;refine zad 9 (fun W=>Below w.heap.size w W) (d.drew) (by kernel_rfl) (by kernel_rfl) ?_;simp only [List.take_succ_cons,List.take_zero,List.drop_succ_cons,List.drop_zero];repeat(refine zab rfl ?_ (fun W hW=>?_) ?_;rotate_left 1;· (obtain⟨i,j,l,m,n,p⟩:=g W hW;go_simp;with_reducible rfl))
  refine zaJ rfl 170 #[.int .i64 k.steps,.int .i64 o.steps] (.int .i64 (cmpI k.steps o.steps)) (fun W hW=>?_) (fun W hW=>(zkN _ _ W).mono (fun e w' hh=>⟨hh.1,by rw [hh.2];exact hW⟩)) ?_
  ·go_simp
  refine wpQuiet_nil ?_;intro y f;go_wp2;go_ret;exact⟨rfl,f⟩
end Go.Proofs.YtfpgjkbjbbgciaaGreatDoor
