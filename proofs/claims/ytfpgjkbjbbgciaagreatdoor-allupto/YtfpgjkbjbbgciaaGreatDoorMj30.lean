import Derived.Test.YtfpgjkbjbbgciaaGreatDoorMj29
set_option maxRecDepth 100000
set_option maxHeartbeats 8000000
namespace Go.Proofs.YtfpgjkbjbbgciaaGreatDoor
section
section
variable {P:Program} {ops:Array Oper} {C:World→Prop}
theorem zaf{id:Nat}{Q:Exit→Act→World→Prop}{a:Act}{w:World}{l:List Oper}(n:Nat)(C:World→Prop)(hC:C (w.drewN 1))(hm:P.follows .mixedOrders=true)(hB:Region.lexTailB .any l.toArray n=true)
  (h:wpQuiet P l.toArray C (fun a'=>∀ w',C w'→wpList P l.toArray Q (l.drop n) a' w') (l.take n) a):(Code.region id l.toArray true).wp P Q a w:=by
 simp only [Region.lexTailB,Bool.and_eq_true,decide_eq_true_eq] at hB;obtain⟨⟨⟨⟨b,f⟩,k⟩,i⟩,c⟩:=hB;have hn':n<l.length:=by simpa using f
 have e:(l.take n).length=n:=by simp;omega
 have hdl:(l.drop n).length=l.toArray.size-n:=by simp
 have d:HeadInv .any l.toArray n (Array.replicate l.toArray.size false) :=
  ⟨by simp,fun j oj _ hl=>(by rw [getD_replicate_false] at hl;cases hl),fun t _ ht=>getD_in (by simpa using ht) (getD_replicate_false _ _)⟩
 have H:=zoC (md:=.any) (g:=l.toArray.size-n) b k i f (l.take n) 0 _ a (fun j hj=>by
  have:j<n:=by rw [e] at hj;exact hj
  simp [this]) (by simpa using e) d (by rw [e];exact c) h
 refine wp_region_any hm ?_;have:=zhZ (Q:=Q) (g:=l.toArray.size-n) (fun listed a' w' hw' hL=>by
  have:=wpAny_of_seq (md:=.any) (Q':=Q) (l.drop n) n listed a' w' (fun j=>by simp [List.getElem?_drop]) (by rw [hdl];exact hL.1) (hL.2 w' hw');rwa [hdl] at this) _ _ _ _ hC H
 rw [e,show n+(l.toArray.size-n)=l.toArray.size by omega] at this;exact this
theorem zab{Q:Act→Prop}{o:Oper}{rest:List Oper}{a:Act}(hg:o.guard=none)(v:Value)(h:∀ W,C W→(execOp a.eval o).run P W=.ok (.value v) W)(hK:wpQuiet P ops C Q rest (a.put o.dst v)):wpQuiet P ops C Q (o :: rest) a:=by
 have b:Region.wanted o (yielded ops a.tmps)=true:=by simp [Region.wanted,hg]
 unfold wpQuiet;rw [if_pos b];refine⟨v,fun W hW=>?_,hK⟩;unfold Oper.quietAt;rw [h W hW];exact⟨rfl,rfl⟩
theorem zaU{Q:Act→Prop}{o:Oper}{rest:List Oper}{a:Act}(hg:o.guard=none)(f:FuncId)(args:Array Value)(v:Value)(h:∀ W,C W→(execOp a.eval o).run P W=.ok (.enter f args) W)(hc:∀ W,C W→Calls P f args W fun e w''=>e=.returned v∧C w'')(hK:wpQuiet P ops C Q rest (a.put o.dst v)):wpQuiet P ops C Q (o :: rest) a:=by
 have b:Region.wanted o (yielded ops a.tmps)=true:=by simp [Region.wanted,hg]
 unfold wpQuiet;rw [if_pos b];refine⟨v,fun W hW=>?_,hK⟩;unfold Oper.quietAt;rw [h W hW];exact⟨rfl,hc W hW⟩
end
end
section
open Go.RowKit Sp
theorem zdv{w w2:World}{b:Nat}{bv:Value}{k:Kn}{e:Ending}{w':World}(hg:w.grownBy w2 (some b))(h:zbe w2 b bv k e w'):zbe w b bv k e w':=by
 obtain⟨g,d,c,i,f,a⟩:=h;exact⟨g,d,Nat.le_trans hg.size c,i,f,zag hg a⟩
theorem zaD{w wx:World}{cs:Array Value}{t:TypeId}(hbx:Below (w.alloc (.cells cs t)).heap.size (w.alloc (.cells cs t)) wx)(j:Nat):wx.cell? ⟨w.heap.size,j,none⟩=cs[j]? :=
 (World.cell?_of_block (a:=⟨w.heap.size,j,none⟩) (hbx.block w.heap.size (by simp))).trans (World.cell?_alloc_new _ _ _ j)
theorem zeU{w wx w':World}{o:Obj}{b i j:Nat}{u v bv:Value}{k:Kn}{e:Ending}(hX:Below (w.alloc o).heap.size (w.alloc o) wx)(h:zbe ((wx.setCell ⟨b,i,none⟩ u).setCell ⟨b,j,none⟩ v) b bv k e w'):zbe w b bv k e w' :=
 zdv (zag (zac (box1.trans (hX.mono (by simp)))) (zac (Below.refl _ _))) h
theorem zut{w:World}{b:Nat}{bv:Value}{k:Kn}(h:KnM w b bv k)(r:Nat)(hr:r<8)(n:Int)(h0:0≤k.steps)(h1:k.steps≤100000)(n0:0≤k.next)(n1:k.next≤100000):
  qC 224 #[.agg #[.int .i64 (r:Int),.int .i64 n],.pointer (some ⟨b,0,none⟩)] w (zbe w b bv ({ k with regs:=updR k.regs r (only n) }.goTo (k.next+1))):=by
 have hlt:=h.lt;have r0:(0:Int)≤(r:Int):=by omega
 have r1:(r:Int)<8:=by omega
 have s:∀ W,Below (w.alloc (.cells #[.int .i64 (r:Int),.int .i64 n] 167)).heap.size (w.alloc (.cells #[.int .i64 (r:Int),.int .i64 n] 167)) W→KnM W b bv k:=fun W hW=>(h.alloc _).below hW (by simp;omega);go_enter Tryz.func224,Tryz.ntmps224;go_wp2;go_region_with(first
  | (go_at_call 226;(with_reducible refine(zhB n _).mono ?_);rintro e d ⟨rfl,f⟩;have c:Below (w.alloc (.cells #[.int .i64 (r:Int),.int .i64 n] 167)).heap.size (w.alloc (.cells #[.int .i64 (r:Int),.int .i64 n] 167)) d:=(Below.refl _ _).drew.trans f;have a:=s _ c;have c0:=(a.cR r hr).1;have c1:=(a.cR r hr).2;have z0:=a.fz (r*2);have z1:=a.fz (r*2+1);have v0:d.cell? ⟨w.heap.size,0,none⟩=some (.int .i64 (r:Int)):=zaD c 0;have v1:d.cell? ⟨w.heap.size,1,none⟩=some (.int .i64 n):=zaD c 1;have j:=a.putR r hr (only n)))
 all_goals go_wp2_with(go_at_call 227;(with_reducible refine(zc0 j h0 h1 n0 n1).mono ?_);intro e w6 i;have m:=zeU c i;clear i;obtain⟨g,rfl,q,p,o,l⟩:=m)
 all_goals go_ret
 all_goals exact⟨g,rfl,q,p,o,l⟩
end
section
open Sp
def cmpI(a b:Int):Int:=if a<b then -1 else if b<a then 1 else 0
theorem zgu{a b:Int}(h:cmpI a b=0):a=b:=by
 unfold cmpI at h;split at h
 ·omega
 ·split at h <;> omega
theorem zmx(a:Int):cmpI a a=0:=by unfold cmpI;rw [if_neg (by omega),if_neg (by omega)]
def cmpL:List Int→List Int→Int
 | [],[]=>0
 | [],_ :: _=>-1
 | _ :: _,[]=>1
 | a :: x,b :: y=>if cmpI a b=0 then cmpL x y else cmpI a b
def cmpK(k o:Kn):Int:=if k.steps=o.steps then(if k.next=o.next then cmpL k.behind o.behind else cmpI k.next o.next) else cmpI k.steps o.steps
def encL:Nat→List Int→Int
 | 0,_=>0
 | _+1,[]=>0
 | n+1,z :: r=>(z+1)*1024 ^ n+encL n r
def SmallL(n:Nat)(l:List Int):Prop:=l.length≤n∧∀ z∈l,0≤z∧z≤1000
theorem zkM(n:Nat):(0:Int)<1024 ^ n:=Int.pow_pos (by omega)
theorem SmallL.tail{n:Nat}{z:Int}{r:List Int}(h:SmallL (n+1) (z :: r)):SmallL n r:=⟨by have:=h.1;simp at this;omega,fun y hy=>h.2 y (List.mem_cons_of_mem _ hy)⟩
theorem zeT(n:Nat)(l:List Int)(h:SmallL n l):0≤encL n l∧encL n l<1024 ^ n:=by
 induction n generalizing l with
 | zero=>exact⟨Int.le_refl _,by show(0:Int)<1;omega⟩
 | succ n ih =>
  cases l with
  | nil=>exact⟨Int.le_refl _,zkM _⟩
  | cons z r =>
   obtain⟨h1,h2⟩:=ih r h.tail;obtain⟨z0,z1⟩:=h.2 z List.mem_cons_self;have hp:=zkM n;show 0≤(z+1)*1024 ^ n+encL n r∧(z+1)*1024 ^ n+encL n r<1024 ^ (n+1);rw [Int.pow_succ];have hm:(z+1)*1024 ^ n≤1001*1024 ^ n:=Int.mul_le_mul_of_nonneg_right (by omega) (by omega);have hm0:0≤(z+1)*1024 ^ n:=Int.mul_nonneg (by omega) (by omega);omega
theorem zy9(n:Nat)(x y:List Int)(hx:SmallL n x)(hy:SmallL n y):(cmpL x y<0→encL n x<encL n y)∧(cmpL x y=0→x=y)∧(0<cmpL x y→encL n y<encL n x):=by
 induction n generalizing x y with
 | zero =>
  have f:x=[]:=List.length_eq_zero_iff.1 (by have:=hx.1;omega);have i:y=[]:=List.length_eq_zero_iff.1 (by have:=hy.1;omega);subst f;subst i;exact⟨fun h=>absurd h (by decide),fun _=>rfl,fun h=>absurd h (by decide)⟩
 | succ n ih =>
  have hp:=zkM n;cases x with
  | nil =>
   cases y with
   | nil=>exact⟨fun h=>absurd h (by decide),fun _=>rfl,fun h=>absurd h (by decide)⟩
   | cons b y =>
    refine⟨fun _=>?_,fun h=>absurd h (by simp [cmpL]),fun h=>absurd h (by simp [cmpL])⟩;have:=(zeT n y hy.tail).1;obtain⟨j,l⟩:=hy.2 b List.mem_cons_self;show(0:Int)<(b+1)*1024 ^ n+encL n y;have:1*1024 ^ n≤(b+1)*1024 ^ n:=Int.mul_le_mul_of_nonneg_right (by omega) (by omega);omega
  | cons a x =>
   cases y with
   | nil =>
    refine⟨fun h=>absurd h (by simp [cmpL]),fun h=>absurd h (by simp [cmpL]),fun _=>?_⟩;have:=(zeT n x hx.tail).1;obtain⟨j,l⟩:=hx.2 a List.mem_cons_self;show(0:Int)<(a+1)*1024 ^ n+encL n x;have:1*1024 ^ n≤(a+1)*1024 ^ n:=Int.mul_le_mul_of_nonneg_right (by omega) (by omega);omega
   | cons b y =>
    obtain⟨k,i2,g⟩:=ih x y hx.tail hy.tail;obtain⟨x0,x1⟩:=zeT n x hx.tail;obtain⟨y0,y1⟩:=zeT n y hy.tail;show((if cmpI a b=0 then cmpL x y else cmpI a b)<0→(a+1)*1024 ^ n+encL n x<(b+1)*1024 ^ n+encL n y)∧((if cmpI a b=0 then cmpL x y else cmpI a b)=0→a :: x=b :: y)∧(0<(if cmpI a b=0 then cmpL x y else cmpI a b)→(b+1)*1024 ^ n+encL n y<(a+1)*1024 ^ n+encL n x)
    by_cases c:cmpI a b=0
    ·rw [if_pos c];have e:=zgu c;subst e;exact⟨fun h=>by have:=k h;omega,fun h=>by rw [i2 h],fun h=>by have:=g h;omega⟩
    ·rw [if_neg c];refine⟨fun h=>?_,fun h=>absurd h c,fun h=>?_⟩
     ·have d:a<b:=by unfold cmpI at h;split at h;assumption;split at h <;> omega
      have:(a+1+1)*1024 ^ n≤(b+1)*1024 ^ n:=Int.mul_le_mul_of_nonneg_right (by omega) (by omega);rw [Int.add_mul (a+1) 1] at this;omega
     ·have d:b<a:=by unfold cmpI at h;split at h;omega;split at h;assumption;omega
      have:(b+1+1)*1024 ^ n≤(a+1)*1024 ^ n:=Int.mul_le_mul_of_nonneg_right (by omega) (by omega);rw [Int.add_mul (b+1) 1] at this;omega
theorem zmy(x:List Int):cmpL x x=0:=by
 induction x with
 | nil=>rfl
 | cons a x ih=>show(if cmpI a a=0 then cmpL x x else cmpI a a)=0;rw [if_pos (zmx a),ih]
structure KeyOk(k:Kn):Prop where
 next:0≤k.next∧k.next≤1000
 behind:SmallL 15 k.behind
def keyK(k:Kn):Int:=(k.steps*1024+k.next)*1024 ^ 15+encL 15 k.behind
theorem znW{k o:Kn}(hk:KeyOk k)(ho:KeyOk o):(cmpK k o<0→keyK k<keyK o)∧(cmpK k o=0→k.next=o.next∧k.behind=o.behind∧k.steps=o.steps)∧(0<cmpK k o→keyK o<keyK k):=by
 obtain⟨a0,a1⟩:=zeT 15 k.behind hk.behind;obtain⟨b0,b1⟩:=zeT 15 o.behind ho.behind;obtain⟨k0,k1⟩:=hk.next;obtain⟨o0,o1⟩:=ho.next;obtain⟨e,c,d⟩:=zy9 15 _ _ hk.behind ho.behind;unfold cmpK keyK;by_cases a:k.steps=o.steps
 ·rw [if_pos a,a];by_cases b:k.next=o.next
  ·rw [if_pos b,b];exact⟨fun h=>by have:=e h;omega,fun h=>⟨rfl,c h,rfl⟩,fun h=>by have:=d h;omega⟩
  ·rw [if_neg b];refine⟨fun h=>?_,fun h=>absurd (zgu h) b,fun h=>?_⟩
   ·have:k.next<o.next:=by unfold cmpI at h;split at h;assumption;split at h <;> omega
    omega
   ·have:o.next<k.next:=by unfold cmpI at h;split at h;omega;split at h;assumption;omega
    omega
 ·rw [if_neg a];refine⟨fun h=>?_,fun h=>absurd (zgu h) a,fun h=>?_⟩
  ·have:k.steps<o.steps:=by unfold cmpI at h;split at h;assumption;split at h <;> omega
   omega
  ·have:o.steps<k.steps:=by unfold cmpI at h;split at h;omega;split at h;assumption;omega
   omega
theorem zuo{k o:Kn}(h1:k.next=o.next)(h2:k.behind=o.behind)(h3:k.steps=o.steps):cmpK k o=0:=by
 unfold cmpK;rw [if_pos h3,if_pos h1,h2,zmy]
theorem zup{k o:Kn}(hk:KeyOk k)(ho:KeyOk o)(h:keyK k≤keyK o):k.steps≤o.steps:=by
 obtain⟨a0,a1⟩:=zeT 15 k.behind hk.behind;obtain⟨b0,b1⟩:=zeT 15 o.behind ho.behind;obtain⟨k0,k1⟩:=hk.next;obtain⟨o0,o1⟩:=ho.next;unfold keyK at h;omega
end
section
open Go.RowKit Sp
theorem zkN(a b:Int)(w:World):qC 170 #[.int .i64 a,.int .i64 b] w fun e w'=>e=.returned (.int .i64 (cmpI a b))∧w'=w:=by
 by_cases h:a<b
 ·have d:cmpI a b=-1:=if_pos h;rw [d];go_enter Tryz.func170,Tryz.ntmps170;go_wp2;go_ret;exact⟨rfl,rfl⟩
 ·have hd:decide (a<b)=false:=by simpa using h
  by_cases c:b<a
  ·have d:cmpI a b=1:=(if_neg h).trans (if_pos c);rw [d];go_enter Tryz.func170,Tryz.ntmps170;go_wp2;go_ret;exact⟨rfl,rfl⟩
  ·have hd2:decide (b<a)=false:=by simpa using c
   have d:cmpI a b=0:=(if_neg h).trans (if_neg c);rw [d];go_enter Tryz.func170,Tryz.ntmps170;go_wp2;go_ret;exact⟨rfl,rfl⟩
def AgreeTo(xs ys:List Int)(j:Nat):Prop:=∀ i:Nat,i<j→xs[i]?=ys[i]?
theorem AgreeTo.all{xs ys:List Int}{j:Nat}(h:AgreeTo xs ys j)(h1:j=xs.length)(h2:j=ys.length):xs=ys:=by
 apply List.ext_getElem?;intro i;by_cases a:i<j
 ·exact h i a
 ·rw [List.getElem?_eq_none (by omega),List.getElem?_eq_none (by omega)]
theorem AgreeTo.succ{xs ys:List Int}{j:Nat}(h:AgreeTo xs ys j)(e:xs[j]?=ys[j]?):AgreeTo xs ys (j+1):=fun i hi=>by
 by_cases e2:i=j
 ·rw [e2];exact e
 ·exact h i (by omega)
theorem AgreeTo.cmp{xs ys:List Int}{j:Nat}(h:AgreeTo xs ys j)(h1:j≤xs.length)(h2:j≤ys.length):cmpL xs ys=cmpL (xs.drop j) (ys.drop j):=by
 induction j generalizing xs ys with
 | zero=>rfl
 | succ j ih =>
  cases xs with
  | nil=>simp at h1
  | cons a x =>
   cases ys with
   | nil=>simp at h2
   | cons b y =>
    have e:a=b:=by have:=h 0 (by omega);simpa using this
    subst e;show(if cmpI a a=0 then cmpL x y else cmpI a a)=cmpL (x.drop j) (y.drop j);rw [if_pos (zmx a)];exact ih (fun i hi=>by have:=h (i+1) (by omega);simpa using this) (by simpa using h1) (by simpa using h2)
theorem AgreeTo.end1{xs ys:List Int}{j:Nat}(h:AgreeTo xs ys j)(h1:j=xs.length)(h2:j<ys.length):cmpL xs ys=-1:=by
 rw [h.cmp (by omega) (by omega),List.drop_of_length_le (by omega)];cases hd:ys.drop j with
 | nil=>have:=congrArg List.length hd;simp at this;omega
 | cons b y=>rfl
theorem AgreeTo.end2{xs ys:List Int}{j:Nat}(h:AgreeTo xs ys j)(h1:j<xs.length)(h2:j=ys.length):cmpL xs ys=1:=by
 rw [h.cmp (by omega) (by omega),List.drop_of_length_le (l:=ys) (by omega)];cases hd:xs.drop j with
 | nil=>have:=congrArg List.length hd;simp at this;omega
 | cons b y=>rfl
theorem AgreeTo.end3{xs ys:List Int}{j:Nat}(h:AgreeTo xs ys j)(h1:j<xs.length)(h2:j<ys.length)(hc:¬cmpI xs[j] ys[j]=0):cmpL xs ys=cmpI xs[j] ys[j]:=by
 rw [h.cmp (by omega) (by omega),List.drop_eq_getElem_cons h1,List.drop_eq_getElem_cons h2];show(if cmpI xs[j] ys[j]=0 then _ else _)=_;rw [if_neg hc]
theorem BhM.addr{w:World}{ao:Option Addr}{cap:Nat}{l:List Int}(h:BhM w ao cap l)(hl:0<l.length):∃ g,ao=some ⟨g,0,none⟩:=by
 cases ao with
 | none=>obtain⟨e,_⟩:=h.nil rfl;rw [e] at hl;simp at hl
 | some a=>obtain⟨g,rfl⟩:=h.at0 a rfl;exact⟨g,rfl⟩
theorem zmz{w:World}(a1 a2:Option Addr)(c1 c2:Nat)(xs ys:List Int)(h1:BhM w a1 c1 xs)(h2:BhM w a2 c2 ys):qC 171 #[.slice a1 xs.length c1,.slice a2 ys.length c2] w (qR w (.int .i64 (cmpL xs ys))):=by
 have l1:=h1.len;have l2:=h2.len;go_enter Tryz.func171,Tryz.ntmps171;go_wp2
 go_loopw [11] (fun ti wr=>∃ j:Nat,j≤xs.length∧j≤ys.length∧ti=.int .i64 (j:Int)∧AgreeTo xs ys j∧qB w wr) (fun ti _=>xs.length-(intOf ti).toNat)
 case atStart=>exact⟨0,by omega,by omega,rfl,fun i hi=>absurd hi (by omega),Below.refl _ _⟩
 case round =>
  obtain⟨j,hj,hj2,rfl,l,d⟩:=hrel;have q:=h1.below d;have p:=h2.below d;have hj0:(0:Int)≤(j:Int):=by omega
  by_cases g:j<xs.length
  ·have hx1:(j:Int)<(xs.length:Int):=by omega
   obtain⟨t,rfl⟩:=q.addr (by omega);have d1:=(q.cell t rfl).2 j xs[j] (List.getElem?_eq_getElem g);by_cases m:j<ys.length
   ·have hy1:(j:Int)<(ys.length:Int):=by omega
    have n:decide ((ys.length:Int)≤(j:Int))=false:=by simpa using m
    obtain⟨u,rfl⟩:=p.addr (by omega);have d2:=(p.cell u rfl).2 j ys[j] (List.getElem?_eq_getElem m);by_cases k:cmpI xs[j] ys[j]=0
    ·have a:=zkN xs[j] ys[j];rw [k] at a;go_wp2_with(go_at_call 170;(with_reducible refine(a _).mono ?_);rintro e s ⟨rfl,b⟩;have f:=b.symm;subst f)
     exact⟨⟨j+1,by omega,by omega,by go_num,l.succ (by rw [List.getElem?_eq_getElem g,List.getElem?_eq_getElem m,zgu k]),d⟩,by simp [intOf];omega⟩
    ·have a:=zkN xs[j] ys[j];have h:Hid (cmpL xs ys=cmpI xs[j] ys[j]):=l.end3 g m k;generalize cmpI xs[j] ys[j]=c at k a h;have hc2:(c != 0)=true:=by simpa using k
     go_wp2_with(go_at_call 170;(with_reducible refine(a _).mono ?_);rintro e s ⟨rfl,b⟩;have f:=b.symm;subst f)
     go_ret;exact⟨by rw [h.out];rfl,d⟩
   ·have n:(ys.length:Int)≤(j:Int):=by omega
    have h:Hid (cmpL xs ys=1):=l.end2 g (by omega);go_wp2;go_ret;exact⟨by rw [h.out];rfl,d⟩
  ·have hx2:decide ((j:Int)<(xs.length:Int))=false:=by simpa using g
   by_cases r:xs.length<ys.length
   ·have o:(xs.length:Int)<(ys.length:Int):=by omega
    have h:Hid (cmpL xs ys=-1):=l.end1 (by omega) (by omega);go_wp2;go_ret;exact⟨by rw [h.out];rfl,d⟩
   ·have o:decide ((xs.length:Int)<(ys.length:Int))=false:=by simpa using r
    have h:Hid (cmpL xs ys=0):=by rw [l.all (by omega) (by omega)];exact zmy _
    go_wp2;go_ret;exact⟨by rw [h.out];rfl,d⟩
def zfK(w:World)(k o:Kn):Ending→World→Prop:=fun e w'=>e=.returned (.int .i64 (cmpK k o))∧qB w w'
theorem zhp{w:World}{b c b1 c1:Nat}{a1 a2:Option Addr}{k o:Kn}(h:KnM w b (.slice a1 k.behind.length b1) k)(h2:KnM w c (.slice a2 o.behind.length c1) o)(B1:BhM w a1 b1 k.behind)(B2:BhM w a2 c1 o.behind):qC 155 #[.pointer (some ⟨b,0,none⟩),.pointer (some ⟨c,0,none⟩)] w (zfK w k o):=by
 have g:∀ W,qB w W→W.cell? ⟨b,50,none⟩=some (.int .i64 k.steps)∧W.cell? ⟨c,50,none⟩=some (.int .i64 o.steps)∧W.cell? ⟨b,48,none⟩=some (.int .i64 k.next)∧W.cell? ⟨c,48,none⟩=some (.int .i64 o.next)∧W.cell? ⟨b,49,none⟩=some (.slice a1 k.behind.length b1)∧W.cell? ⟨c,49,none⟩=some (.slice a2 o.behind.length c1):=fun W hW=>by
  have s:=h.below hW h.lt;have t:=h2.below hW h2.lt;exact⟨s.cS,t.cS,s.cN,t.cN,s.cB,t.cB⟩
 by_cases q:k.steps=o.steps
 ·have C:(k.steps != o.steps)=false:=by simpa using q
  by_cases r:k.next=o.next
  ·have x:cmpK k o=cmpL k.behind o.behind:=(if_pos q).trans (if_pos r);rw [show zfK w k o=fun e w'=>e=.returned (.int .i64 (cmpL k.behind o.behind))∧qB w w' by unfold zfK;rw [x]];have A:(k.next != o.next)=false:=by simpa using r
   go_enter Tryz.func155,Tryz.ntmps155;go_wp2;refine zaf 8 (fun W=>qB w W) ((Below.refl _ _).drew) (by kernel_rfl) (by kernel_rfl) ?_;simp only [q2];repeat(refine zab rfl ?_ (fun W hW=>?_) ?_;rotate_left 1;· (obtain⟨l,n,p,j,m,i⟩:=g W hW;go_simp;with_reducible rfl))
   refine wpQuiet_nil ?_;intro z d;go_wp2;refine zaf 8 (fun W=>qB w W) (d.drew) (by kernel_rfl) (by kernel_rfl) ?_;simp only [q2];repeat(refine zab rfl ?_ (fun W hW=>?_) ?_;rotate_left 1;· (obtain⟨l,n,p,j,m,i⟩:=g W hW;go_simp;with_reducible rfl))
   refine wpQuiet_nil ?_;intro y f;go_wp2;refine zaf 8 (fun W=>qB w W) (f.drew) (by kernel_rfl) (by kernel_rfl) ?_;simp only [q2];repeat(refine zab rfl ?_ (fun W hW=>?_) ?_;rotate_left 1;· (obtain⟨l,n,p,j,m,i⟩:=g W hW;go_simp;with_reducible rfl))
   refine wpQuiet_nil ?_;intro B a;have u:=zmz a1 a2 b1 c1 k.behind o.behind (B1.below a) (B2.below a);go_wp2_with(go_at_call 171;(with_reducible refine u.mono ?_);rintro e wx ⟨rfl,v⟩)
   go_ret;exact⟨rfl,a.trans (v.mono a.size)⟩
  ·have x:cmpK k o=cmpI k.next o.next:=(if_pos q).trans (if_neg r);rw [show zfK w k o=fun e w'=>e=.returned (.int .i64 (cmpI k.next o.next))∧qB w w' by unfold zfK;rw [x]];have A:(k.next != o.next)=true:=by simpa using r
   go_enter Tryz.func155,Tryz.ntmps155;go_wp2;refine zaf 8 (fun W=>qB w W) ((Below.refl _ _).drew) (by kernel_rfl) (by kernel_rfl) ?_;simp only [q2];repeat(refine zab rfl ?_ (fun W hW=>?_) ?_;rotate_left 1;· (obtain⟨l,n,p,j,m,i⟩:=g W hW;go_simp;with_reducible rfl))
   refine wpQuiet_nil ?_;intro z d;go_wp2;refine zaf 8 (fun W=>qB w W) (d.drew) (by kernel_rfl) (by kernel_rfl) ?_;simp only [q2];repeat(refine zab rfl ?_ (fun W hW=>?_) ?_;rotate_left 1;· (obtain⟨l,n,p,j,m,i⟩:=g W hW;go_simp;with_reducible rfl))
   refine wpQuiet_nil ?_;intro y f;go_wp2;refine zaf 9 (fun W=>qB w W) (f.drew) (by kernel_rfl) (by kernel_rfl) ?_;simp only [q2];repeat(refine zab rfl ?_ (fun W hW=>?_) ?_;rotate_left 1;· (obtain⟨l,n,p,j,m,i⟩:=g W hW;go_simp;with_reducible rfl))
   refine zaU rfl 170 #[.int .i64 k.next,.int .i64 o.next] (.int .i64 (cmpI k.next o.next)) (fun W hW=>?_) (fun W hW=>(zkN _ _ W).mono (fun e w' hh=>⟨hh.1,by rw [hh.2];exact hW⟩)) ?_
   ·go_simp
   refine wpQuiet_nil ?_;intro B a;go_wp2;go_ret;exact⟨rfl,a⟩
 ·have x:cmpK k o=cmpI k.steps o.steps:=if_neg q;rw [show zfK w k o=fun e w'=>e=.returned (.int .i64 (cmpI k.steps o.steps))∧qB w w' by unfold zfK;rw [x]];have C:(k.steps != o.steps)=true:=by simpa using q
  go_enter Tryz.func155,Tryz.ntmps155;go_wp2;refine zaf 8 (fun W=>qB w W) ((Below.refl _ _).drew) (by kernel_rfl) (by kernel_rfl) ?_;simp only [q2];repeat(refine zab rfl ?_ (fun W hW=>?_) ?_;rotate_left 1;· (obtain⟨l,n,p,j,m,i⟩:=g W hW;go_simp;with_reducible rfl))
  refine wpQuiet_nil ?_;intro z d;go_wp2;refine zaf 9 (fun W=>qB w W) (d.drew) (by kernel_rfl) (by kernel_rfl) ?_;simp only [q2];repeat(refine zab rfl ?_ (fun W hW=>?_) ?_;rotate_left 1;· (obtain⟨l,n,p,j,m,i⟩:=g W hW;go_simp;with_reducible rfl))
  refine zaU rfl 170 #[.int .i64 k.steps,.int .i64 o.steps] (.int .i64 (cmpI k.steps o.steps)) (fun W hW=>?_) (fun W hW=>(zkN _ _ W).mono (fun e w' hh=>⟨hh.1,by rw [hh.2];exact hW⟩)) ?_
  ·go_simp
  refine wpQuiet_nil ?_;intro y f;go_wp2;go_ret;exact⟨rfl,f⟩
end
end Go.Proofs.YtfpgjkbjbbgciaaGreatDoor
