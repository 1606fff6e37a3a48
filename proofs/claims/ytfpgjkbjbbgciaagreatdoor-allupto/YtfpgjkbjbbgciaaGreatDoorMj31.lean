import Derived.Test.YtfpgjkbjbbgciaaGreatDoorMj27
import Derived.Test.YtfpgjkbjbbgciaaGreatDoorMj30
set_option maxRecDepth 100000
set_option maxHeartbeats 8000000
namespace Go.Proofs.YtfpgjkbjbbgciaaGreatDoor
open Go.RowKit Sp
def zlY(f:Int→Int):Ins→Ins
 | .jump to=>.jump (f to)
 | .less r s to=>.less r s (f to)
 | .same r s to=>.same r s (f to)
 | .call to=>.call (f to)
 | i=>i
def lift(f:Int→Int)(m:Mc):Mc:={ m with at':=if m.fin=1∨m.fin=2 then -1 else f m.at',backs:=m.backs.map f }
structure SimOk(L:List Said)(C:List (Ins × Int))(f:Int→Int):Prop where
 line:∀ p (h:p<C.length),∃ k:Nat,f (p:Int)=(k:Int)∧∃ hk:k<L.length,insQ L k L[k]=zlY f C[p].1∧C[p].2=(k:Int)+1∧(p+1<C.length→ztq C.length p C[p].1→(∀ to,C[p].1≠.jump to)→C[p].1≠.back→C[p].1≠.stop→zad L (k+1)=f ((p:Int)+1))
theorem zfD{f:Int→Int}{m:Mc}(h:¬(m.fin=1∨m.fin=2)):lift f m={ m with at':=f m.at',backs:=m.backs.map f }:=by unfold lift;rw [if_neg h]
theorem zpc{f:Int→Int}{m:Mc}(h:m.fin=1∨m.fin=2):lift f m={ m with at':=-1,backs:=m.backs.map f }:=by unfold lift;rw [if_pos h]
theorem zbI{f:Int→Int}{m1:Mc}{z:Int}(h:m1.fin=0):lift f (m1.goes z)={ m1 with backs:=m1.backs.map f }.goes (f z):=by
 rw [zfD (by show ¬(m1.fin=1∨m1.fin=2);omega)];rfl
theorem ztC{N:Nat}{f:Int→Int}{m:Mc}{i:Ins}{next:Int}(I:InvD N m)(hfin:m.fin=0)(hnext:(∀ to,i≠.jump to)→i≠.back→i≠.stop→next=f (m.at'+1)):
  exec (zlY f i) next (lift f m)=lift f (zba i m):=by
 have hl:lift f m={ m with at':=f m.at',backs:=m.backs.map f }:=zfD (by omega);have e:=I.frames;rw [if_neg (by omega)] at e;rw [hl];cases i with
 | set r k =>
  rw [zai (.inl rfl) hfin,hnext (by simp) (by simp) (by simp),show exec (.set r k) (m.at'+1) m=Mc.goes { m with regs:=upd m.regs r k } (m.at'+1) from rfl,zbI]
  ·rfl
  ·exact hfin
 | mov r s =>
  rw [zai (.inl rfl) hfin,hnext (by simp) (by simp) (by simp),show exec (.mov r s) (m.at'+1) m=Mc.goes { m with regs:=upd m.regs r (m.regs s) } (m.at'+1) from rfl,zbI]
  ·rfl
  ·exact hfin
 | alu o r s t =>
  rw [zai (.inl rfl) hfin,hnext (by simp) (by simp) (by simp),show exec (.alu o r s t) (m.at'+1) m=Mc.goes { m with regs:=upd m.regs r (zby o (m.regs s) (m.regs t)) } (m.at'+1) from rfl,zbI]
  ·rfl
  ·exact hfin
 | inc r k =>
  rw [zai (.inl rfl) hfin,hnext (by simp) (by simp) (by simp),show exec (.inc r k) (m.at'+1) m=Mc.goes { m with regs:=upd m.regs r (w64 (m.regs r+k)) } (m.at'+1) from rfl,zbI]
  ·rfl
  ·exact hfin
 | read r =>
  rw [zai (.inl rfl) hfin,hnext (by simp) (by simp) (by simp),show exec (.read r) (m.at'+1) m=Mc.goes { m with regs:=upd m.regs r (m.inp.headD 0),inp:=m.inp.tail } (m.at'+1) from rfl,zbI]
  ·rfl
  ·exact hfin
 | write r =>
  rw [zai (.inl rfl) hfin,hnext (by simp) (by simp) (by simp),show exec (.write r) (m.at'+1) m=Mc.goes { m with out:=m.out++[m.regs r] } (m.at'+1) from rfl,zbI]
  ·rfl
  ·exact hfin
 | load r s =>
  by_cases c:m.regs s<0∨15<m.regs s
  ·have a:exec (.load r s) (m.at'+1) m={ m with fin:=3 }:=if_pos c;rw [zai (.inr (by rw [a];show(2:Int)<3;decide)) hfin,a,zfD (by show ¬((3:Int)=1∨(3:Int)=2);decide)];exact if_pos c
  ·have a:exec (.load r s) (m.at'+1) m={ m with regs:=upd m.regs r (m.cells (m.regs s).toNat) }.goes (m.at'+1):=if_neg c;rw [zai (.inl (by rw [a];rfl)) hfin,a,zbI,hnext (by simp) (by simp) (by simp)];exact if_neg c;exact hfin
 | store r s =>
  by_cases c:m.regs r<0∨15<m.regs r
  ·have a:exec (.store r s) (m.at'+1) m={ m with fin:=3 }:=if_pos c;rw [zai (.inr (by rw [a];show(2:Int)<3;decide)) hfin,a,zfD (by show ¬((3:Int)=1∨(3:Int)=2);decide)];exact if_pos c
  ·have a:exec (.store r s) (m.at'+1) m={ m with cells:=upd m.cells (m.regs r).toNat (m.regs s) }.goes (m.at'+1):=if_neg c;rw [zai (.inl (by rw [a];rfl)) hfin,a,zbI,hnext (by simp) (by simp) (by simp)];exact if_neg c;exact hfin
 | jump to =>
  rw [zai (.inl rfl) hfin,show exec (.jump to) (m.at'+1) m=Mc.goes m to from rfl,zbI]
  ·rfl
  ·exact hfin
 | less r s to =>
  rw [zai (.inl rfl) hfin,hnext (by simp) (by simp) (by simp),show exec (.less r s to) (m.at'+1) m=m.goes (if m.regs r<m.regs s then to else m.at'+1) from rfl,zbI,apply_ite f];rfl;exact hfin
 | same r s to =>
  rw [zai (.inl rfl) hfin,hnext (by simp) (by simp) (by simp),show exec (.same r s to) (m.at'+1) m=m.goes (if m.regs r=m.regs s then to else m.at'+1) from rfl,zbI,apply_ite f];rfl;exact hfin
 | call to =>
  by_cases b:m.frames=16
  ·have a:exec (.call to) (m.at'+1) m={ m with fin:=4 }:=if_pos b;rw [zai (.inr (by rw [a];show(2:Int)<4;decide)) hfin,a,zfD (by show ¬((4:Int)=1∨(4:Int)=2);decide)];exact if_pos b
  ·have a:exec (.call to) (m.at'+1) m={ m with backs:=m.backs++[m.at'+1],frames:=m.frames+1,peak:=max m.peak (m.frames+1) }.goes to:=if_neg b;rw [zai (.inl (by rw [a];rfl)) hfin,a,zbI,hnext (by simp) (by simp) (by simp)];refine(if_neg b).trans ?_;simp [Mc.goes];exact hfin
 | back =>
  by_cases d:m.frames=1
  ·have g:exec .back (m.at'+1) m={ m with frames:=0,fin:=2 }.goes (-1):=if_pos d;have a:zba .back m={ m with steps:=m.steps+1,frames:=0,fin:=2 }:=by
    unfold zba;rw [g,if_pos (.inr rfl)];rfl
   rw [a,zpc (.inr rfl)];exact if_pos d
  ·have g:exec .back (m.at'+1) m={ m with frames:=m.frames-1,backs:=m.backs.dropLast }.goes (m.backs.getLastD 0):=if_neg d;obtain⟨J,x,j⟩:∃ I x,m.backs=I++[x]:=by
    rcases List.eq_nil_or_concat m.backs with h|⟨I,x,h⟩
    ·rw [h] at e;simp at e;omega
    ·exact⟨I,x,by rw [h,List.concat_eq_append]⟩
   rw [zai (.inl (by rw [g];rfl)) hfin,g,zbI];refine(if_neg d).trans ?_;simp [Mc.goes,j];exact hfin
 | stop =>
  have a:zba .stop m={ m with steps:=m.steps+1,fin:=1 }:=by
   unfold zba;rw [show exec .stop (m.at'+1) m={ m with fin:=1 }.goes (-1) from rfl,if_pos (.inl rfl)];rfl
  rw [a,zpc (.inl rfl)];rfl
theorem zwt{L:List Said}{C:List (Ins × Int)}{f:Int→Int}{m:Mc}(S:SimOk L C f)(K:CodeOk C)(I:InvD C.length m)(hfin:m.fin=0):zbz L (lift f m)=lift f (zcF C m):=by
 obtain⟨p,j,b⟩:=I.at_;obtain⟨k,l,g,hq,_,hn⟩:=S.line p b;have hl:(lift f m).at'=(k:Int):=by rw [zfD (by omega)];show f m.at'=_;rw [j,l]
 rw [zh5 j b];unfold zbz;rw [hl,Int.toNat_natCast,List.getElem?_eq_getElem g];show exec (insQ L k L[k]) (zad L (k+1)) (lift f m)=_;rw [hq];refine ztC I hfin (fun c d e=>?_);have a:=K.leads p b;have h:p+1<C.length:=by
  revert a c d e
  generalize C[p].1=i;intro c d e a;cases i with
  | jump to=>exact absurd rfl (c to)
  | back=>exact absurd rfl d
  | stop=>exact absurd rfl e
  | less r s to=>exact a.2
  | same r s to=>exact a.2
  | call to=>exact a.2
  | _=>exact a
 rw [hn h a c d e,j]
theorem znM{L:List Said}{C:List (Ins × Int)}{f:Int→Int}(S:SimOk L C f)(K:CodeOk C)(n:Nat):∀{m:Mc},InvD C.length m→runS (zbz L) n (lift f m)=lift f (runS (zcF C) n m)∧InvD C.length (runS (zcF C) n m):=by
 induction n with
 | zero=>intro m I;exact⟨rfl,I⟩
 | succ n ih =>
  intro m I;have hlf:(lift f m).fin=m.fin:=rfl;by_cases h:m.fin=0
  ·rw [zbZ _ _ _ h,zbZ _ _ _ (by rw [hlf];exact h),zwt S K I h];obtain⟨p,b,a⟩:=I.at_;refine ih ?_;rw [zh5 b a];exact I.step h b (K.leads p a)
  ·rw [zbY _ _ _ h,zbY _ _ _ (by rw [hlf];exact h)];exact⟨rfl,I⟩
theorem zpd{L:List Said}{C:List (Ins × Int)}{f:Int→Int}{m:Mc}(S:SimOk L C f)(I:InvD C.length m):(lift f m).line=zgJ C m:=by
 obtain⟨p,b,a⟩:=I.at_;obtain⟨k,hk,hkl,_,c,_⟩:=S.line p a;have hlf:(lift f m).fin=m.fin:=rfl;unfold Mc.line zgJ;rw [hlf];by_cases h:m.fin=1∨m.fin=2
 ·rw [if_pos h,if_pos h]
 ·rw [if_neg h,if_neg h,zfD h,b,Int.toNat_natCast,List.getElem?_eq_getElem a];show f (p:Int)+1=C[p].2;rw [hk,c]
theorem zrr{w:World}(a1 a2:Option Addr)(c1 c2:Nat)(xs ys:List Int)(h1:BhM w a1 c1 xs)(h2:BhM w a2 c2 ys):qC 176 #[.slice a1 xs.length c1,.slice a2 ys.length c2] w (qR w (.bool (decide (xs=ys)))):=by
 have l1:=h1.len;have l2:=h2.len;by_cases h:xs.length=ys.length
 ·have r:((xs.length:Int) != (ys.length:Int))=false:=by rw [h];simp
  have d:Hid (xs.length=ys.length):=h;clear h;go_enter Tryz.func176,Tryz.ntmps176;go_wp2
  go_loopw [13] (fun ti wr=>∃ j:Nat,j≤xs.length∧ti=.int .i64 (j:Int)∧AgreeTo xs ys j∧qB w wr) (fun ti _=>xs.length-(intOf ti).toNat)
  case atStart=>exact⟨0,by omega,rfl,fun i hi=>absurd hi (by omega),Below.refl _ _⟩
  case round =>
   obtain⟨j,hj,rfl,n,c⟩:=hrel;have hj0:(0:Int)≤(j:Int):=by omega
   by_cases f:j<xs.length
   ·have hx1:(j:Int)<(xs.length:Int):=by omega
    have m:j<ys.length:=by have:=d.out;omega
    have hy1:(j:Int)<(ys.length:Int):=by omega
    obtain⟨k,rfl⟩:=h1.addr (by omega);obtain⟨l,rfl⟩:=h2.addr (by have:=d.out;omega);have p:∀ W,qB w W→W.cell? ⟨k,j,none⟩=some (.int .i64 xs[j])∧W.cell? ⟨l,j,none⟩=some (.int .i64 ys[j]):=fun W a=>⟨((h1.below a).cell k rfl).2 j xs[j] (List.getElem?_eq_getElem f),((h2.below a).cell l rfl).2 j ys[j] (List.getElem?_eq_getElem m)⟩
    by_cases b:xs[j]=ys[j]
    ·have g:(xs[j] != ys[j])=false:=by simpa using b
     go_wp2;refine zaf 8 (fun W=>qB w W) c.drew (by kernel_rfl) (by kernel_rfl) ?_;simp only [q2];repeat(refine zab rfl ?_ (fun W a=>?_) ?_;rotate_left 1;· (obtain⟨q,s⟩:=p W a;go_simp;with_reducible rfl))
     refine wpQuiet_nil ?_;intro W a;go_wp2;go_roundw
     case rel=>exact⟨j+1,by omega,by go_num,n.succ (by rw [List.getElem?_eq_getElem f,List.getElem?_eq_getElem m,b]),a⟩
     case measure=>simp [intOf];omega
    ·have g:(xs[j] != ys[j])=true:=by simpa using b
     have o:decide (xs=ys)=false:=by
      rw [decide_eq_false_iff_not];intro e;subst e;exact b rfl
     go_wp2;refine zaf 8 (fun W=>qB w W) c.drew (by kernel_rfl) (by kernel_rfl) ?_;simp only [q2];repeat(refine zab rfl ?_ (fun W a=>?_) ?_;rotate_left 1;· (obtain⟨q,s⟩:=p W a;go_simp;with_reducible rfl))
     refine wpQuiet_nil ?_;intro W a;go_wp2;go_ret;exact⟨by rw [o];rfl,a⟩
   ·have hx2:decide ((j:Int)<(xs.length:Int))=false:=by simpa using f
    have o:decide (xs=ys)=true:=by rw [decide_eq_true_iff];have:=d.out;exact n.all (by omega) (by omega)
    go_wp2;go_ret;exact⟨by rw [o];rfl,c⟩
 ·have r:((xs.length:Int) != (ys.length:Int))=true:=by
   have:¬(xs.length:Int)=(ys.length:Int):=by omega
   simpa using this
  have o:decide (xs=ys)=false:=by rw [decide_eq_false_iff_not];exact fun e=>h (by rw [e])
  rw [o];go_enter Tryz.func176,Tryz.ntmps176;go_wp2;go_ret;exact⟨rfl,Below.refl _ _⟩
def covB(f g:Nat→Rg):Nat→Bool
 | 0=>true
 | n+1=>covB f g n&&(g n).within (f n)
theorem zrs{f g:Nat→Rg}{n j:Nat}(hj:j<n)(h:(g j).within (f j)=false):covB f g n=false:=by
 induction n with
 | zero=>omega
 | succ n ih =>
  unfold covB;by_cases e:j=n
  ·subst e;rw [h,Bool.and_false]
  ·rw [ih (by omega),Bool.false_and]
theorem zm3{w:World}(g1 o1 c1 g2 o2 c2 n:Nat)(f g:Nat→Rg)(hn:n≤16)(h1:∀ r,r<n→w.cell? ⟨g1,o1+r*2,none⟩=some (.int .i64 (f r).lo)∧w.cell? ⟨g1,o1+r*2+1,none⟩=some (.int .i64 (f r).hi))(h2:∀ r,r<n→w.cell? ⟨g2,o2+r*2,none⟩=some (.int .i64 (g r).lo)∧w.cell? ⟨g2,o2+r*2+1,none⟩=some (.int .i64 (g r).hi))(l1:g1<w.heap.size)(l2:g2<w.heap.size):
  qC 177 #[.slice (some ⟨g1,o1,none⟩) n c1,.slice (some ⟨g2,o2,none⟩) n c2] w (qR w (.bool (covB f g n))):=by
 go_enter Tryz.func177,Tryz.ntmps177;go_wp2
 go_loopw [9] (fun ti wr=>∃ j:Nat,j≤n∧ti=.int .i64 (j:Int)∧covB f g j=true∧qB w wr) (fun ti _=>n-(intOf ti).toNat)
 case atStart=>exact⟨0,by omega,rfl,rfl,Below.refl _ _⟩
 case round =>
  obtain⟨j,hj,rfl,hA,k⟩:=hrel;have hj0:(0:Int)≤(j:Int):=by omega
  by_cases h:j<n
  ·have hx1:(j:Int)<(n:Int):=by omega
   have m:∀ q i W,q<w.heap.size→qB w W→W.cell? ⟨q,i,none⟩=w.cell? ⟨q,i,none⟩:=fun q i W hq b=>World.cell?_of_block (a:=⟨q,i,none⟩) (b.block q hq);obtain⟨u,z⟩:=h2 j h;rw [←m g2 _ wr l2 k] at u z;obtain⟨A,d⟩:∃ A,wr.alloc (.cells #[.int .i64 (g j).lo,.int .i64 (g j).hi] 213)=A:=⟨_,rfl⟩
   have l:∀ W,qB A W→qB w W:=fun W b=>by subst d;exact k.trans ((box1.trans (b.mono (by simp))).mono k.size)
   have s:∀ W,qB A W→(W.cell? ⟨wr.heap.size,0,none⟩=some (.int .i64 (g j).lo)∧W.cell? ⟨wr.heap.size,1,none⟩=some (.int .i64 (g j).hi))∧(W.cell? ⟨g1,o1+j*2,none⟩=some (.int .i64 (f j).lo)∧W.cell? ⟨g1,o1+j*2+1,none⟩=some (.int .i64 (f j).hi)):=fun W b =>
    ⟨by subst d;exact⟨zaD b 0,zaD b 1⟩,(m _ _ W l1 (l W b)).trans (h1 j h).1,(m _ _ W l1 (l W b)).trans (h1 j h).2⟩
   by_cases o:(g j).within (f j)=true
   ·go_wp2;refine zaf 6 (fun W=>qB A W) (Below.refl _ _).drew (by kernel_rfl) (by kernel_rfl) ?_;simp only [q2];repeat(refine zab rfl ?_ (fun W b=>?_) ?_;rotate_left 1;· (obtain⟨⟨v,t⟩,x,y⟩:=s W b;go_simp;with_reducible rfl))
    refine zaU rfl 182 #[rv (g j),rv (f j)] (.bool ((g j).within (f j))) (fun W b=>?_) (fun W b=>(zjV _ _ W).mono (fun e w' hh=>⟨hh.1,b.trans (hh.2.mono b.size)⟩)) ?_
    ·go_simp
    refine wpQuiet_nil ?_;intro W b;have c:=l W b;go_wp2;go_roundw
    case rel=>exact⟨j+1,by omega,by go_num,by unfold covB;rw [hA,o];rfl,c⟩
    case measure=>simp [intOf];omega
   ·have p:(g j).within (f j)=false:=by simpa using o
    clear o;go_wp2;refine zaf 6 (fun W=>qB A W) (Below.refl _ _).drew (by kernel_rfl) (by kernel_rfl) ?_;simp only [q2];repeat(refine zab rfl ?_ (fun W b=>?_) ?_;rotate_left 1;· (obtain⟨⟨v,t⟩,x,y⟩:=s W b;go_simp;with_reducible rfl))
    refine zaU rfl 182 #[rv (g j),rv (f j)] (.bool ((g j).within (f j))) (fun W b=>?_) (fun W b=>(zjV _ _ W).mono (fun e w' hh=>⟨hh.1,b.trans (hh.2.mono b.size)⟩)) ?_
    ·go_simp
    refine wpQuiet_nil ?_;intro W b;have c:=l W b;go_wp2;go_ret;exact⟨by rw [zrs h p];rfl,c⟩
  ·have hx2:decide ((j:Int)<(n:Int))=false:=by simpa using h
   obtain rfl:j=n:=by omega
   go_wp2;go_ret;exact⟨by rw [hA];rfl,k⟩
def zc5(k o:Kn):Bool:=decide (k.next=o.next)&&(decide (k.behind=o.behind)&&(covB k.regs o.regs 8&&covB k.cells o.cells 16))
theorem znZ{w:World}{b c oo b1 c1:Nat}{a1 a2:Option Addr}{k o:Kn}(h:KnM w b (.slice a1 k.behind.length b1) k)(h2:KnR w c oo (.slice a2 o.behind.length c1) o)(B1:BhM w a1 b1 k.behind)(B2:BhM w a2 c1 o.behind):qC 168 #[.pointer (some ⟨b,0,none⟩),.pointer (some ⟨c,oo,none⟩)] w (qR w (.bool (zc5 k o))):=by
 have x:c<w.heap.size:=World.block_lt_of_cell? w _ h2.cN;have v:∀ W,qB w W→KnM W b (.slice a1 k.behind.length b1) k∧KnR W c oo (.slice a2 o.behind.length c1) o:=fun W a=>⟨h.below a h.lt,h2.block (a.block c x)⟩
 have d:∀ W,qB w W→W.cell? ⟨b,48,none⟩=some (.int .i64 k.next)∧W.cell? ⟨c,oo+48,none⟩=some (.int .i64 o.next)∧W.cell? ⟨b,49,none⟩=some (.slice a1 k.behind.length b1)∧W.cell? ⟨c,oo+49,none⟩=some (.slice a2 o.behind.length c1):=fun W a=>by
  obtain⟨m,p⟩:=v W a;exact⟨m.cN,p.cN,m.cB,p.cB⟩
 have y:∀ W,qB w W→qC 176 #[.slice a1 k.behind.length b1,.slice a2 o.behind.length c1] W (qR w (.bool (decide (k.behind=o.behind)))):=fun W a=>(zrr a1 a2 b1 c1 _ _ (B1.below a) (B2.below a)).mono fun e w' hh=>⟨hh.1,a.trans (hh.2.mono a.size)⟩
 have t:∀ W,qB w W→qC 177 #[.slice (some ⟨b,0,none⟩) 8 8,.slice (some ⟨c,oo,none⟩) 8 8] W (qR w (.bool (covB k.regs o.regs 8))):=fun W a=>by
  obtain⟨m,p⟩:=v W a;exact(zm3 b 0 8 c oo 8 8 k.regs o.regs (by omega) (fun r hr=>by rw [Nat.zero_add];exact m.cR r hr) (fun r hr=>p.cR r hr) m.lt (Nat.lt_of_lt_of_le x a.size)).mono fun e w' hh=>⟨hh.1,a.trans (hh.2.mono a.size)⟩
 have u:∀ W,qB w W→qC 177 #[.slice (some ⟨b,16,none⟩) 16 16,.slice (some ⟨c,oo+16,none⟩) 16 16] W (qR w (.bool (covB k.cells o.cells 16))):=fun W a=>by
  obtain⟨m,p⟩:=v W a;exact(zm3 b 16 16 c (oo+16) 16 16 k.cells o.cells (by omega) (fun r hr=>m.cC r hr) (fun r hr=>by have:=p.cC r hr;rw [show oo+(16+r*2)=oo+16+r*2 by omega,show oo+(16+r*2+1)=oo+16+r*2+1 by omega] at this;exact this) m.lt (Nat.lt_of_lt_of_le x a.size)).mono fun e w' hh=>⟨hh.1,a.trans (hh.2.mono a.size)⟩
 by_cases l:k.next=o.next
 ·have z:(k.next == o.next)=true:=by simpa using l
  by_cases s:k.behind=o.behind
  ·have q:decide (k.behind=o.behind)=true:=by simpa using s
   rw [q] at y;cases e3:covB k.regs o.regs 8 with
   | false =>
    rw [e3] at t;have n:zc5 k o=false:=by unfold zc5;rw [e3];simp
    rw [n];clear u s q e3 l n;go_enter Tryz.func168,Tryz.ntmps168;go_wp2;refine zaf 42 (fun W=>qB w W) (Below.refl _ _).drew (by kernel_rfl) (by kernel_rfl) ?_;simp only [q2];iterate 10 (refine zab rfl ?_ (fun W a=>?_) ?_;rotate_left 1;· (obtain⟨g,f,i,j⟩:=d W a;go_simp;with_reducible rfl))
    simp only [Act.put,q1];iterate 8 (go_big_quiet_want;rename_i K hK;refine⟨?_,fun W a=>?_,hK _ ?_⟩;rotate_left 1;(· (obtain⟨g,f,i,j⟩:=d W a;unfold Oper.quietAt;go_simp;with_reducible rfl));clear hK K;simp only [Act.put,q1])
    go_big_quiet_want;rename_i K hK;refine⟨.bool true,fun W a=>?_,hK _ ?_⟩
    ·unfold Oper.quietAt;go_simp
    clear hK K;simp only [Act.put,q1];iterate 2 (refine zab rfl ?_ (fun W a=>?_) ?_;rotate_left 1;· (obtain⟨g,f,i,j⟩:=d W a;go_simp;with_reducible rfl))
    simp only [Act.put,q1];iterate 8 (go_big_quiet_want;rename_i K hK;refine⟨?_,fun W a=>?_,hK _ ?_⟩;rotate_left 1;(· (obtain⟨g,f,i,j⟩:=d W a;unfold Oper.quietAt;go_simp;with_reducible rfl));clear hK K;simp only [Act.put,q1])
    go_big_quiet_want;rename_i K hK;refine⟨.bool false,fun W a=>?_,hK _ ?_⟩
    ·unfold Oper.quietAt;go_simp
    clear hK K;simp only [Act.put,q1];iterate 2 (refine zab rfl ?_ (fun W a=>?_) ?_;rotate_left 1;· (obtain⟨g,f,i,j⟩:=d W a;go_simp;with_reducible rfl))
    simp only [Act.put,q1];iterate 9 go_big_quiet_skip
    iterate 1 (refine zab rfl ?_ (fun W a=>?_) ?_;rotate_left 1;· (obtain⟨g,f,i,j⟩:=d W a;go_simp;with_reducible rfl))
    simp only [Act.put,q1];refine wpQuiet_nil ?_;intro W a;go_wp2;go_ret;exact⟨rfl,a⟩
   | true =>
    rw [e3] at t;have n:zc5 k o=covB k.cells o.cells 16:=by unfold zc5;rw [e3,q,show decide (k.next=o.next)=true by simpa using l];simp
    rw [n];clear s q e3 l n;go_enter Tryz.func168,Tryz.ntmps168;go_wp2;refine zaf 42 (fun W=>qB w W) (Below.refl _ _).drew (by kernel_rfl) (by kernel_rfl) ?_;simp only [q2];iterate 10 (refine zab rfl ?_ (fun W a=>?_) ?_;rotate_left 1;· (obtain⟨g,f,i,j⟩:=d W a;go_simp;with_reducible rfl))
    simp only [Act.put,q1];iterate 8 (go_big_quiet_want;rename_i K hK;refine⟨?_,fun W a=>?_,hK _ ?_⟩;rotate_left 1;(· (obtain⟨g,f,i,j⟩:=d W a;unfold Oper.quietAt;go_simp;with_reducible rfl));clear hK K;simp only [Act.put,q1])
    go_big_quiet_want;rename_i K hK;refine⟨.bool true,fun W a=>?_,hK _ ?_⟩
    ·unfold Oper.quietAt;go_simp
    clear hK K;simp only [Act.put,q1];iterate 2 (refine zab rfl ?_ (fun W a=>?_) ?_;rotate_left 1;· (obtain⟨g,f,i,j⟩:=d W a;go_simp;with_reducible rfl))
    simp only [Act.put,q1];iterate 8 (go_big_quiet_want;rename_i K hK;refine⟨?_,fun W a=>?_,hK _ ?_⟩;rotate_left 1;(· (obtain⟨g,f,i,j⟩:=d W a;unfold Oper.quietAt;go_simp;with_reducible rfl));clear hK K;simp only [Act.put,q1])
    go_big_quiet_want;rename_i K hK;refine⟨.bool true,fun W a=>?_,hK _ ?_⟩
    ·unfold Oper.quietAt;go_simp
    clear hK K;simp only [Act.put,q1];iterate 2 (refine zab rfl ?_ (fun W a=>?_) ?_;rotate_left 1;· (obtain⟨g,f,i,j⟩:=d W a;go_simp;with_reducible rfl))
    simp only [Act.put,q1];iterate 8 (go_big_quiet_want;rename_i K hK;refine⟨?_,fun W a=>?_,hK _ ?_⟩;rotate_left 1;(· (obtain⟨g,f,i,j⟩:=d W a;unfold Oper.quietAt;go_simp;with_reducible rfl));clear hK K;simp only [Act.put,q1])
    go_big_quiet_want;rename_i K hK;refine⟨.bool (covB k.cells o.cells 16),fun W a=>?_,hK _ ?_⟩
    ·unfold Oper.quietAt;go_simp
    clear hK K;simp only [Act.put,q1];iterate 1 (refine zab rfl ?_ (fun W a=>?_) ?_;rotate_left 1;· (obtain⟨g,f,i,j⟩:=d W a;go_simp;with_reducible rfl))
    simp only [Act.put,q1];refine wpQuiet_nil ?_;intro W a;go_wp2;go_ret;exact⟨rfl,a⟩
  ·have q:decide (k.behind=o.behind)=false:=by simpa using s
   rw [q] at y;have n:zc5 k o=false:=by unfold zc5;rw [q];simp
   rw [n];clear t u s q l n;go_enter Tryz.func168,Tryz.ntmps168;go_wp2;refine zaf 42 (fun W=>qB w W) (Below.refl _ _).drew (by kernel_rfl) (by kernel_rfl) ?_;simp only [q2];iterate 10 (refine zab rfl ?_ (fun W a=>?_) ?_;rotate_left 1;· (obtain⟨g,f,i,j⟩:=d W a;go_simp;with_reducible rfl))
   simp only [Act.put,q1];iterate 8 (go_big_quiet_want;rename_i K hK;refine⟨?_,fun W a=>?_,hK _ ?_⟩;rotate_left 1;(· (obtain⟨g,f,i,j⟩:=d W a;unfold Oper.quietAt;go_simp;with_reducible rfl));clear hK K;simp only [Act.put,q1])
   go_big_quiet_want;rename_i K hK;refine⟨.bool false,fun W a=>?_,hK _ ?_⟩
   ·unfold Oper.quietAt;go_simp
   clear hK K;simp only [Act.put,q1];iterate 2 (refine zab rfl ?_ (fun W a=>?_) ?_;rotate_left 1;· (obtain⟨g,f,i,j⟩:=d W a;go_simp;with_reducible rfl))
   simp only [Act.put,q1];iterate 9 go_big_quiet_skip
   iterate 2 (refine zab rfl ?_ (fun W a=>?_) ?_;rotate_left 1;· (obtain⟨g,f,i,j⟩:=d W a;go_simp;with_reducible rfl))
   simp only [Act.put,q1];iterate 9 go_big_quiet_skip
   iterate 1 (refine zab rfl ?_ (fun W a=>?_) ?_;rotate_left 1;· (obtain⟨g,f,i,j⟩:=d W a;go_simp;with_reducible rfl))
   simp only [Act.put,q1];refine wpQuiet_nil ?_;intro W a;go_wp2;go_ret;exact⟨rfl,a⟩
 ·have z:(k.next == o.next)=false:=by simpa using l
  have n:zc5 k o=false:=by unfold zc5;rw [show decide (k.next=o.next)=false by simpa using l];simp
  rw [n];clear t u y n l;go_enter Tryz.func168,Tryz.ntmps168;go_wp2;refine zaf 42 (fun W=>qB w W) (Below.refl _ _).drew (by kernel_rfl) (by kernel_rfl) ?_;simp only [q2];iterate 10 (refine zab rfl ?_ (fun W a=>?_) ?_;rotate_left 1;· (obtain⟨g,f,i,j⟩:=d W a;go_simp;with_reducible rfl))
  simp only [Act.put,q1];iterate 9 go_big_quiet_skip
  iterate 2 (refine zab rfl ?_ (fun W a=>?_) ?_;rotate_left 1;· (obtain⟨g,f,i,j⟩:=d W a;go_simp;with_reducible rfl))
  simp only [Act.put,q1];iterate 9 go_big_quiet_skip
  iterate 2 (refine zab rfl ?_ (fun W a=>?_) ?_;rotate_left 1;· (obtain⟨g,f,i,j⟩:=d W a;go_simp;with_reducible rfl))
  simp only [Act.put,q1];iterate 9 go_big_quiet_skip
  iterate 1 (refine zab rfl ?_ (fun W a=>?_) ?_;rotate_left 1;· (obtain⟨g,f,i,j⟩:=d W a;go_simp;with_reducible rfl))
  simp only [Act.put,q1];refine wpQuiet_nil ?_;intro W a;go_wp2;go_ret;exact⟨rfl,a⟩
end Go.Proofs.YtfpgjkbjbbgciaaGreatDoor
