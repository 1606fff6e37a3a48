import Derived.Test.YtfpgjkbjbbgciaaGreatDoorMd23
import Derived.Test.YtfpgjkbjbbgciaaGreatDoorMd24
import Derived.Great.Ranges
import Derived.Laws.Tables
set_option maxRecDepth 100000
set_option maxHeartbeats 8000000
namespace Go.Proofs.YtfpgjkbjbbgciaaGreatDoor
open Go.RowKit Sp
def InC(N:Nat)(z:Int):Prop:=∃ k:Nat,z=(k:Int)∧k<N
def zs4(N p:Nat):Ins→Prop
 | .jump to=>InC N to
 | .less _ _ to=>InC N to∧p+1<N
 | .same _ _ to=>InC N to∧p+1<N
 | .call to=>InC N to∧p+1<N
 | .back=>True
 | .stop=>True
 | _=>p+1<N
structure InvD(N:Nat)(m:Mc):Prop where
 at_:InC N m.at'
 backs:∀ z∈m.backs,InC N z
 frames:m.frames=if m.fin=2 then 0 else(m.backs.length:Int)+1
 few:m.backs.length≤15
 peak:∃ p:Nat,m.peak=(p:Int)∧p≤16
 steps:0≤m.steps
 out:(m.out.length:Int)≤m.steps
theorem InvD.inv{N:Nat}{m:Mc}(I:InvD N m)(hN:N≤300)(h:m.fin=0):InvC m:=by
 obtain⟨k,hk,hlt⟩:=I.at_
 have hf:=I.frames
 rw [if_neg (by omega)] at hf
 exact⟨by omega,by omega,hf,I.few,I.peak,I.steps,I.out⟩
theorem InvD.goes{N:Nat}{m m1:Mc}{z:Int}(I:InvD N m)(h:InC N z)(e1:m1.backs=m.backs)(e2:m1.frames=m.frames)(e3:m1.peak=m.peak)(e4:m1.steps=m.steps)(e5:m1.out.length≤m.out.length+1)(e6:m1.fin=m.fin):InvD N (m1.goes z):=by
 have hs:=I.steps
 have ho:=I.out
 refine⟨h,?_,?_,?_,?_,?_,?_⟩
 ·show ∀ z∈m1.backs,_;rw [e1];exact I.backs
 ·show m1.frames=if m1.fin=2 then 0 else(m1.backs.length:Int)+1;rw [e1,e2,e6];exact I.frames
 ·show m1.backs.length≤15;rw [e1];exact I.few
 ·show ∃ p:Nat,m1.peak=(p:Int)∧p≤16;rw [e3];exact I.peak
 ·show 0≤m1.steps+1;omega
 ·show(m1.out.length:Int)≤m1.steps+1;omega
theorem InvD.fault{N:Nat}{m:Mc}{x:Int}(I:InvD N m)(h:m.fin=0)(hx:¬x=2):InvD N { m with fin:=x }:=by
 have hf:=I.frames
 rw [if_neg (by omega)] at hf
 exact⟨I.at_,I.backs,by show m.frames=if x=2 then 0 else(m.backs.length:Int)+1;rw [if_neg hx];exact hf,I.few,I.peak,I.steps,I.out⟩
theorem InvD.step{N p:Nat}{m:Mc}{i:Ins}(I:InvD N m)(hfin:m.fin=0)(hp:m.at'=(p:Int))(hl:zs4 N p i):InvD N (zaW i m):=by
 have hnx:p+1<N→InC N (m.at'+1):=fun h=>⟨p+1,by omega,h⟩
 have hf:=I.frames
 rw [if_neg (by omega)] at hf
 cases i with
 | set r k=>rw [zai (.inl rfl) hfin];exact I.goes (hnx hl) rfl rfl rfl rfl (Nat.le_succ _) rfl
 | mov r s=>rw [zai (.inl rfl) hfin];exact I.goes (hnx hl) rfl rfl rfl rfl (Nat.le_succ _) rfl
 | alu o r s t=>rw [zai (.inl rfl) hfin];exact I.goes (hnx hl) rfl rfl rfl rfl (Nat.le_succ _) rfl
 | inc r k=>rw [zai (.inl rfl) hfin];exact I.goes (hnx hl) rfl rfl rfl rfl (Nat.le_succ _) rfl
 | load r s =>
  by_cases hn:m.regs s<0∨15<m.regs s
  ·have e1:exec (.load r s) (m.at'+1) m={ m with fin:=3 }:=if_pos hn
   rw [zai (.inr (by rw [e1];show(2:Int)<3;decide)) hfin,e1]
   exact I.fault hfin (by decide)
  ·have e1:exec (.load r s) (m.at'+1) m={ m with regs:=upd m.regs r (m.cells (m.regs s).toNat) }.goes (m.at'+1):=if_neg hn
   rw [zai (.inl (by rw [e1];rfl)) hfin,e1]
   exact I.goes (hnx hl) rfl rfl rfl rfl (Nat.le_succ _) rfl
 | store r s =>
  by_cases hn:m.regs r<0∨15<m.regs r
  ·have e1:exec (.store r s) (m.at'+1) m={ m with fin:=3 }:=if_pos hn
   rw [zai (.inr (by rw [e1];show(2:Int)<3;decide)) hfin,e1]
   exact I.fault hfin (by decide)
  ·have e1:exec (.store r s) (m.at'+1) m={ m with cells:=upd m.cells (m.regs r).toNat (m.regs s) }.goes (m.at'+1):=if_neg hn
   rw [zai (.inl (by rw [e1];rfl)) hfin,e1]
   exact I.goes (hnx hl) rfl rfl rfl rfl (Nat.le_succ _) rfl
 | read r=>rw [zai (.inl rfl) hfin];exact I.goes (hnx hl) rfl rfl rfl rfl (Nat.le_succ _) rfl
 | write r=>rw [zai (.inl rfl) hfin];exact I.goes (hnx hl) rfl rfl rfl rfl (by show(m.out++[_]).length≤_;simp) rfl
 | jump to=>rw [zai (.inl rfl) hfin];exact I.goes hl rfl rfl rfl rfl (Nat.le_succ _) rfl
 | less r s to =>
  rw [zai (.inl rfl) hfin]
  refine I.goes (m1:=m) ?_ rfl rfl rfl rfl (Nat.le_succ _) rfl
  split
  ·exact hl.1
  ·exact hnx hl.2
 | same r s to =>
  rw [zai (.inl rfl) hfin]
  refine I.goes (m1:=m) ?_ rfl rfl rfl rfl (Nat.le_succ _) rfl
  split
  ·exact hl.1
  ·exact hnx hl.2
 | call to =>
  by_cases h16:m.frames=16
  ·have e1:exec (.call to) (m.at'+1) m={ m with fin:=4 }:=if_pos h16
   rw [zai (.inr (by rw [e1];show(2:Int)<4;decide)) hfin,e1]
   exact I.fault hfin (by decide)
  ·have e1:exec (.call to) (m.at'+1) m={ m with backs:=m.backs++[m.at'+1],frames:=m.frames+1,peak:=max m.peak (m.frames+1) }.goes to:=if_neg h16
   rw [zai (.inl (by rw [e1];rfl)) hfin,e1]
   have hs:=I.steps
   have ho:=I.out
   have hw:=I.few
   obtain⟨pk,hpk,hpk1⟩:=I.peak
   refine⟨hl.1,?_,?_,?_,?_,?_,?_⟩
   ·show ∀ z∈m.backs++[m.at'+1],_
    intro z hz
    rw [List.mem_append,List.mem_singleton] at hz
    rcases hz with hz|rfl
    ·exact I.backs z hz
    ·exact hnx hl.2
   ·show m.frames+1=if m.fin=2 then 0 else((m.backs++[m.at'+1]).length:Int)+1
    rw [if_neg (by omega),hf];simp
   ·show(m.backs++[m.at'+1]).length≤15
    simp;omega
   ·show ∃ q:Nat,max m.peak (m.frames+1)=(q:Int)∧q≤16
    exact⟨max pk (m.backs.length+2),by rw [hpk,hf];omega,by omega⟩
   ·show 0≤m.steps+1;omega
   ·show(m.out.length:Int)≤m.steps+1;omega
 | back =>
  have hs:=I.steps
  have ho:=I.out
  by_cases h1:m.frames=1
  ·have e0:exec .back (m.at'+1) m={ m with frames:=0,fin:=2 }.goes (-1):=if_pos h1
   have e1:zaW .back m={ m with steps:=m.steps+1,frames:=0,fin:=2 }:=by
    unfold zaW;rw [e0,if_pos (.inr rfl)];rfl
   rw [e1]
   exact⟨I.at_,I.backs,by show(0:Int)=if(2:Int)=2 then 0 else _;rw [if_pos rfl],I.few,I.peak,by show 0≤m.steps+1;omega,by show(m.out.length:Int)≤m.steps+1;omega⟩
  ·have e0:exec .back (m.at'+1) m={ m with frames:=m.frames-1,backs:=m.backs.dropLast }.goes (m.backs.getLastD 0):=if_neg h1
   rw [zai (.inl (by rw [e0];rfl)) hfin,e0]
   obtain⟨J,x,hJ⟩:∃ I x,m.backs=I++[x]:=by
    rcases List.eq_nil_or_concat m.backs with h|⟨I,x,h⟩
    ·rw [h] at hf;simp at hf;omega
    ·exact⟨I,x,by rw [h,List.concat_eq_append]⟩
   have hb:=I.backs
   have hw:=I.few
   rw [hJ] at hb hw hf
   simp at hw hf
   refine⟨?_,?_,?_,?_,I.peak,?_,?_⟩
   ·show InC N (m.backs.getLastD 0)
    rw [hJ];simp
    exact hb x (by simp)
   ·show ∀ z∈m.backs.dropLast,_
    rw [hJ];simp
    intro z hz
    exact hb z (by simp [hz])
   ·show m.frames-1=if m.fin=2 then 0 else(m.backs.dropLast.length:Int)+1
    rw [if_neg (by omega),hJ];simp;omega
   ·show m.backs.dropLast.length≤15
    rw [hJ];simp;omega
   ·show 0≤m.steps+1;omega
   ·show(m.out.length:Int)≤m.steps+1;omega
 | stop =>
  have hs:=I.steps
  have ho:=I.out
  have e1:zaW .stop m={ m with steps:=m.steps+1,fin:=1 }:=by
   unfold zaW;rw [show exec .stop (m.at'+1) m={ m with fin:=1 }.goes (-1) from rfl,if_pos (.inl rfl)];rfl
  rw [e1]
  exact⟨I.at_,I.backs,by show m.frames=if(1:Int)=2 then 0 else _;rw [if_neg (by decide)];exact hf,I.few,I.peak,by show 0≤m.steps+1;omega,by show(m.out.length:Int)≤m.steps+1;omega⟩
theorem zhT(i:Ins)(m:Mc)(h:m.fin=0):
  (((zaW i m).fin=0∨(zaW i m).fin=1∨(zaW i m).fin=2)∧(zaW i m).steps=m.steps+1∨((zaW i m).fin=3∨(zaW i m).fin=4)∧(zaW i m).steps=m.steps)∧(zaW i m).inp.length≤m.inp.length:=by
 obtain⟨F,hi⟩:=zjk i (m.at'+1) m h
 unfold zaW
 rcases F with ⟨h1,h2⟩|⟨h1,_,h2⟩|⟨h1,_,h2⟩
 ·rw [if_neg (by omega)];exact⟨.inl ⟨.inl h1,h2⟩,hi⟩
 ·rw [if_pos h1];exact⟨.inl ⟨.inr h1,h2⟩,hi⟩
 ·rw [if_neg (by omega)];exact⟨.inr ⟨h1,h2⟩,hi⟩
def CodeIn(w:World)(g:Nat)(C:List (Ins × Int)):Prop:=∀ j (h:j<C.length),w.cell? ⟨g,j*2,none⟩=some (.iface (insT C[j].1) (.agg (insA C[j].1)))∧w.cell? ⟨g,j*2+1,none⟩=some (.int .i64 C[j].2)
structure CodeOk(C:List (Ins × Int)):Prop where
 some_:0<C.length
 few:C.length≤300
 ok:∀ j (h:j<C.length),zgW C[j].1
 leads:∀ j (h:j<C.length),zs4 C.length j C[j].1
def zfT(C:List (Ins × Int))(m:Mc):Mc:=match C[m.at'.toNat]? with|none=>m|some q=>zaW q.1 m
theorem zhg{C:List (Ins × Int)}{m:Mc}{k:Nat}(hk:m.at'=(k:Int))(h:k<C.length):zfT C m=zaW C[k].1 m:=by
 unfold zfT;rw [hk,Int.toNat_natCast,List.getElem?_eq_getElem h]
def zdo(inp:List Int):Mc:=⟨0,[],inp,0,fun _=>0,fun _=>0,[],1,1,0⟩
def zgX(C:List (Ins × Int))(m:Mc):Int:=if m.fin=1∨m.fin=2 then 0 else(C[m.at'.toNat]?.map (·.2)).getD 0
theorem CodeIn.below{w w':World}{g B:Nat}{C:List (Ins × Int)}(h:CodeIn w g C)(hb:Below B w w')(hg:g<B):CodeIn w' g C:=fun j hj=>⟨(hb.cell (p:=⟨g,j*2,none⟩) hg).trans (h j hj).1,(hb.cell (p:=⟨g,j*2+1,none⟩) hg).trans (h j hj).2⟩
theorem zgz{C:List (Ins × Int)}(K:CodeOk C)(inp:List Int):InvD C.length (zdo inp) :=
 ⟨⟨0,rfl,K.some_⟩,by simp [zdo],rfl,by simp [zdo],⟨1,rfl,by omega⟩,Int.le_refl _,Int.le_refl _⟩
def zly(f:Int→Int):Ins→Ins
 | .jump to=>.jump (f to)
 | .less r s to=>.less r s (f to)
 | .same r s to=>.same r s (f to)
 | .call to=>.call (f to)
 | i=>i
def lift(f:Int→Int)(m:Mc):Mc:={ m with at':=if m.fin=1∨m.fin=2 then -1 else f m.at',backs:=m.backs.map f }
structure SimOk(L:List Said)(C:List (Ins × Int))(f:Int→Int):Prop where
 line:∀ p (h:p<C.length),∃ k:Nat,f (p:Int)=(k:Int)∧∃ hk:k<L.length,insQ L k L[k]=zly f C[p].1∧C[p].2=(k:Int)+1∧(p+1<C.length→zs4 C.length p C[p].1→(∀ to,C[p].1≠.jump to)→C[p].1≠.back→C[p].1≠.stop→zad L (k+1)=f ((p:Int)+1))
theorem zfw{f:Int→Int}{m:Mc}(h:¬(m.fin=1∨m.fin=2)):lift f m={ m with at':=f m.at',backs:=m.backs.map f }:=by unfold lift;rw [if_neg h]
theorem zot{f:Int→Int}{m:Mc}(h:m.fin=1∨m.fin=2):lift f m={ m with at':=-1,backs:=m.backs.map f }:=by unfold lift;rw [if_pos h]
theorem zbB{f:Int→Int}{m1:Mc}{z:Int}(h:m1.fin=0):lift f (m1.goes z)={ m1 with backs:=m1.backs.map f }.goes (f z):=by
 rw [zfw (by show ¬(m1.fin=1∨m1.fin=2);omega)];rfl
theorem zsI{N:Nat}{f:Int→Int}{m:Mc}{i:Ins}{next:Int}(I:InvD N m)(hfin:m.fin=0)(hnext:(∀ to,i≠.jump to)→i≠.back→i≠.stop→next=f (m.at'+1)):
  exec (zly f i) next (lift f m)=lift f (zaW i m):=by
 have hl:lift f m={ m with at':=f m.at',backs:=m.backs.map f }:=zfw (by omega)
 have hf:=I.frames
 rw [if_neg (by omega)] at hf
 rw [hl]
 cases i with
 | set r k =>
  rw [zai (.inl rfl) hfin,hnext (by simp) (by simp) (by simp),show exec (.set r k) (m.at'+1) m=Mc.goes { m with regs:=upd m.regs r k } (m.at'+1) from rfl,zbB]
  ·rfl
  ·exact hfin
 | mov r s =>
  rw [zai (.inl rfl) hfin,hnext (by simp) (by simp) (by simp),show exec (.mov r s) (m.at'+1) m=Mc.goes { m with regs:=upd m.regs r (m.regs s) } (m.at'+1) from rfl,zbB]
  ·rfl
  ·exact hfin
 | alu o r s t =>
  rw [zai (.inl rfl) hfin,hnext (by simp) (by simp) (by simp),show exec (.alu o r s t) (m.at'+1) m=Mc.goes { m with regs:=upd m.regs r (zbr o (m.regs s) (m.regs t)) } (m.at'+1) from rfl,zbB]
  ·rfl
  ·exact hfin
 | inc r k =>
  rw [zai (.inl rfl) hfin,hnext (by simp) (by simp) (by simp),show exec (.inc r k) (m.at'+1) m=Mc.goes { m with regs:=upd m.regs r (w64 (m.regs r+k)) } (m.at'+1) from rfl,zbB]
  ·rfl
  ·exact hfin
 | read r =>
  rw [zai (.inl rfl) hfin,hnext (by simp) (by simp) (by simp),show exec (.read r) (m.at'+1) m=Mc.goes { m with regs:=upd m.regs r (m.inp.headD 0),inp:=m.inp.tail } (m.at'+1) from rfl,zbB]
  ·rfl
  ·exact hfin
 | write r =>
  rw [zai (.inl rfl) hfin,hnext (by simp) (by simp) (by simp),show exec (.write r) (m.at'+1) m=Mc.goes { m with out:=m.out++[m.regs r] } (m.at'+1) from rfl,zbB]
  ·rfl
  ·exact hfin
 | load r s =>
  by_cases hn:m.regs s<0∨15<m.regs s
  ·have e1:exec (.load r s) (m.at'+1) m={ m with fin:=3 }:=if_pos hn
   rw [zai (.inr (by rw [e1];show(2:Int)<3;decide)) hfin,e1,zfw (by show ¬((3:Int)=1∨(3:Int)=2);decide)]
   exact if_pos hn
  ·have e1:exec (.load r s) (m.at'+1) m={ m with regs:=upd m.regs r (m.cells (m.regs s).toNat) }.goes (m.at'+1):=if_neg hn
   rw [zai (.inl (by rw [e1];rfl)) hfin,e1,zbB,hnext (by simp) (by simp) (by simp)]
   exact if_neg hn
   exact hfin
 | store r s =>
  by_cases hn:m.regs r<0∨15<m.regs r
  ·have e1:exec (.store r s) (m.at'+1) m={ m with fin:=3 }:=if_pos hn
   rw [zai (.inr (by rw [e1];show(2:Int)<3;decide)) hfin,e1,zfw (by show ¬((3:Int)=1∨(3:Int)=2);decide)]
   exact if_pos hn
  ·have e1:exec (.store r s) (m.at'+1) m={ m with cells:=upd m.cells (m.regs r).toNat (m.regs s) }.goes (m.at'+1):=if_neg hn
   rw [zai (.inl (by rw [e1];rfl)) hfin,e1,zbB,hnext (by simp) (by simp) (by simp)]
   exact if_neg hn
   exact hfin
 | jump to =>
  rw [zai (.inl rfl) hfin,show exec (.jump to) (m.at'+1) m=Mc.goes m to from rfl,zbB]
  ·rfl
  ·exact hfin
 | less r s to =>
  rw [zai (.inl rfl) hfin,hnext (by simp) (by simp) (by simp),show exec (.less r s to) (m.at'+1) m=m.goes (if m.regs r<m.regs s then to else m.at'+1) from rfl,zbB,apply_ite f]
  rfl
  exact hfin
 | same r s to =>
  rw [zai (.inl rfl) hfin,hnext (by simp) (by simp) (by simp),show exec (.same r s to) (m.at'+1) m=m.goes (if m.regs r=m.regs s then to else m.at'+1) from rfl,zbB,apply_ite f]
  rfl
  exact hfin
 | call to =>
  by_cases h16:m.frames=16
  ·have e1:exec (.call to) (m.at'+1) m={ m with fin:=4 }:=if_pos h16
   rw [zai (.inr (by rw [e1];show(2:Int)<4;decide)) hfin,e1,zfw (by show ¬((4:Int)=1∨(4:Int)=2);decide)]
   exact if_pos h16
  ·have e1:exec (.call to) (m.at'+1) m={ m with backs:=m.backs++[m.at'+1],frames:=m.frames+1,peak:=max m.peak (m.frames+1) }.goes to:=if_neg h16
   rw [zai (.inl (by rw [e1];rfl)) hfin,e1,zbB,hnext (by simp) (by simp) (by simp)]
   refine(if_neg h16).trans ?_
   simp [Mc.goes]
   exact hfin
 | back =>
  by_cases h1:m.frames=1
  ·have e0:exec .back (m.at'+1) m={ m with frames:=0,fin:=2 }.goes (-1):=if_pos h1
   have e1:zaW .back m={ m with steps:=m.steps+1,frames:=0,fin:=2 }:=by
    unfold zaW;rw [e0,if_pos (.inr rfl)];rfl
   rw [e1,zot (.inr rfl)]
   exact if_pos h1
  ·have e0:exec .back (m.at'+1) m={ m with frames:=m.frames-1,backs:=m.backs.dropLast }.goes (m.backs.getLastD 0):=if_neg h1
   obtain⟨J,x,hJ⟩:∃ I x,m.backs=I++[x]:=by
    rcases List.eq_nil_or_concat m.backs with h|⟨I,x,h⟩
    ·rw [h] at hf;simp at hf;omega
    ·exact⟨I,x,by rw [h,List.concat_eq_append]⟩
   rw [zai (.inl (by rw [e0];rfl)) hfin,e0,zbB]
   refine(if_neg h1).trans ?_
   simp [Mc.goes,hJ]
   exact hfin
 | stop =>
  have e1:zaW .stop m={ m with steps:=m.steps+1,fin:=1 }:=by
   unfold zaW;rw [show exec .stop (m.at'+1) m={ m with fin:=1 }.goes (-1) from rfl,if_pos (.inl rfl)];rfl
  rw [e1,zot (.inl rfl)]
  rfl
theorem zvr{L:List Said}{C:List (Ins × Int)}{f:Int→Int}{m:Mc}(S:SimOk L C f)(K:CodeOk C)(I:InvD C.length m)(hfin:m.fin=0):zbP L (lift f m)=lift f (zfT C m):=by
 obtain⟨p,hp,hlt⟩:=I.at_
 obtain⟨k,hk,hkl,hq,_,hn⟩:=S.line p hlt
 have hl:(lift f m).at'=(k:Int):=by rw [zfw (by omega)];show f m.at'=_;rw [hp,hk]
 rw [zhg hp hlt]
 unfold zbP
 rw [hl,Int.toNat_natCast,List.getElem?_eq_getElem hkl]
 show exec (insQ L k L[k]) (zad L (k+1)) (lift f m)=_
 rw [hq]
 refine zsI I hfin (fun h1 h2 h3=>?_)
 have hle:=K.leads p hlt
 have hp1:p+1<C.length:=by
  revert hle h1 h2 h3
  generalize C[p].1=i
  intro h1 h2 h3 hle
  cases i with
  | jump to=>exact absurd rfl (h1 to)
  | back=>exact absurd rfl h2
  | stop=>exact absurd rfl h3
  | less r s to=>exact hle.2
  | same r s to=>exact hle.2
  | call to=>exact hle.2
  | _=>exact hle
 rw [hn hp1 hle h1 h2 h3,hp]
theorem zxl{L:List Said}{C:List (Ins × Int)}{f:Int→Int}(S:SimOk L C f)(K:CodeOk C)(n:Nat):∀{m:Mc},InvD C.length m→runS (zbP L) n (lift f m)=lift f (runS (zfT C) n m)∧InvD C.length (runS (zfT C) n m):=by
 induction n with
 | zero=>intro m I;exact⟨rfl,I⟩
 | succ n ih =>
  intro m I
  have hlf:(lift f m).fin=m.fin:=rfl
  by_cases h:m.fin=0
  ·rw [zcH _ _ _ h,zcH _ _ _ (by rw [hlf];exact h),zvr S K I h]
   obtain⟨p,hp,hlt⟩:=I.at_
   refine ih ?_
   rw [zhg hp hlt]
   exact I.step h hp (K.leads p hlt)
  ·rw [zcG _ _ _ h,zcG _ _ _ (by rw [hlf];exact h)]
   exact⟨rfl,I⟩
theorem zvs{L:List Said}{C:List (Ins × Int)}{f:Int→Int}{m:Mc}(S:SimOk L C f)(I:InvD C.length m):(lift f m).line=zgX C m:=by
 obtain⟨p,hp,hlt⟩:=I.at_
 obtain⟨k,hk,hkl,_,h2,_⟩:=S.line p hlt
 have hlf:(lift f m).fin=m.fin:=rfl
 unfold Mc.line zgX
 rw [hlf]
 by_cases h:m.fin=1∨m.fin=2
 ·rw [if_pos h,if_pos h]
 ·rw [if_neg h,if_neg h,zfw h,hp,Int.toNat_natCast,List.getElem?_eq_getElem hlt]
  show f (p:Int)+1=C[p].2
  rw [hk,h2]
end Go.Proofs.YtfpgjkbjbbgciaaGreatDoor
namespace Go.Proofs.YtfpgjkbjbbgciaaGreatDoor
open Sp
structure Kn where
 regs:Nat→Rg
 cells:Nat→Rg
 next:Int
 behind:List Int
 steps:Int
def updR(f:Nat→Rg)(i:Nat)(v:Rg):Nat→Rg:=fun j=>if j=i then v else f j
def kn0:Kn:=⟨fun _=>only 0,fun _=>only 0,0,[],0⟩
def Kn.goTo(k:Kn)(p:Int):Kn:={ k with steps:=k.steps+1,next:=p }
def zcc(r:Rg):Option (Nat × Nat):=if 0≤r.lo∧r.hi≤15 then some (r.lo.toNat,r.hi.toNat) else none
def zct(c:Nat→Rg)(a:Nat):Nat→Rg
 | 0=>c a
 | n+1=>(zct c a n).or (c (a+(n+1)))
def zaL(c:Nat→Rg)(a b:Nat)(v:Rg):Nat→Rg:=if a=b then updR c a v else fun j=>if a≤j∧j≤b then(c j).or v else c j
def zb5(k:Kn)(l r:Nat)(holds fails:Rg→Rg→Option (Rg × Rg))(label:Int):List Kn :=
 match holds (k.regs l) (k.regs r),fails (k.regs l) (k.regs r) with
 | some (a,b),some (c,d)=>[{ k with regs:=updR (updR k.regs l a) r b }.goTo label,{ k with regs:=updR (updR k.regs l c) r d }.goTo (k.next+1)]
 | some (a,b),none=>[{ k with regs:=updR (updR k.regs l a) r b }.goTo label]
 | none,some (c,d)=>[{ k with regs:=updR (updR k.regs l c) r d }.goTo (k.next+1)]
 | none,none=>[k.goTo label]
def za1(i:Ins)(k:Kn):Option (List Kn) :=
 match i with
 | .set r n=>some [{ k with regs:=updR k.regs r (only n) }.goTo (k.next+1)]
 | .mov r s=>some [{ k with regs:=updR k.regs r (k.regs s) }.goTo (k.next+1)]
 | .alu o r s t=>some [{ k with regs:=updR k.regs r (if o=0 then(k.regs s).plus (k.regs t) else if o=1 then(if s=t then only 0 else(k.regs s).minus (k.regs t)) else(k.regs s).times (k.regs t)) }.goTo (k.next+1)]
 | .inc r n=>some [{ k with regs:=updR k.regs r ((k.regs r).plus (only n)) }.goTo (k.next+1)]
 | .load r s=>match zcc (k.regs s) with
  | none=>none
  | some (a,b)=>some [{ k with regs:=updR k.regs r (zct k.cells a (b-a)) }.goTo (k.next+1)]
 | .store r s=>match zcc (k.regs r) with
  | none=>none
  | some (a,b)=>some [{ k with cells:=zaL k.cells a b (k.regs s) }.goTo (k.next+1)]
 | .read r=>some [{ k with regs:=updR k.regs r anyR }.goTo (k.next+1)]
 | .write _=>some [k.goTo (k.next+1)]
 | .jump to=>some [k.goTo to]
 | .less l r to=>if l=r then some [k.goTo (k.next+1)] else some (zb5 k l r zeB zbv to)
 | .same l r to=>if l=r then some [k.goTo to] else some (zb5 k l r zeC zaI to)
 | .call to=>if k.behind.length+1=16 then none else some [{ k with behind:=k.behind++[k.next+1] }.goTo to]
 | .back=>match k.behind with
  | []=>some []
  | b :: r=>some [{ k with behind:=(b :: r).dropLast }.goTo ((b :: r).getLastD 0)]
 | .stop=>some []
structure Cov(k:Kn)(m:Mc):Prop where
 regs:∀ r,r<8→(k.regs r).In (m.regs r)
 cells:∀ c,c<16→(k.cells c).In (m.cells c)
 next:m.at'=k.next
 behind:m.backs=k.behind
 steps:m.steps=k.steps
structure KnOk(k:Kn):Prop where
 regs:∀ r,r<8→(k.regs r).Ok
 cells:∀ c,c<16→(k.cells c).Ok
structure Mc64(m:Mc):Prop where
 regs:∀ r,r<8→i64 (m.regs r)
 cells:∀ c,c<16→i64 (m.cells c)
 inp:∀ x∈m.inp,i64 x
def zkj:Ins→Prop
 | .set _ n=>i64 n
 | .inc _ n=>i64 n
 | _=>True
theorem zd0(f:Nat→Rg)(i:Nat)(v:Rg):updR f i v i=v:=by simp [updR]
theorem zg3(f:Nat→Rg)(i j:Nat)(v:Rg)(h:¬j=i):updR f i v j=f j:=by simp [updR,h]
theorem zic{f:Nat→Rg}{g:Nat→Int}{n:Nat}(h:∀ r,r<n→(f r).In (g r)){i:Nat}{v:Rg}{x:Int}(hv:v.In x):∀ r,r<n→(updR f i v r).In (upd g i x r):=by
 intro r hr
 by_cases e:r=i
 ·subst e;rw [zd0,zef];exact hv
 ·rw [zg3 _ _ _ _ e,zdy _ _ _ _ e];exact h r hr
theorem zei{f:Nat→Rg}{n:Nat}(h:∀ r,r<n→(f r).Ok){i:Nat}{v:Rg}(hv:v.Ok):∀ r,r<n→(updR f i v r).Ok:=by
 intro r hr
 by_cases e:r=i
 ·subst e;rw [zd0];exact hv
 ·rw [zg3 _ _ _ _ e];exact h r hr
theorem zid{g:Nat→Int}{n:Nat}(h:∀ r,r<n→i64 (g r)){i:Nat}{x:Int}(hx:i64 x):∀ r,r<n→i64 (upd g i x r):=by
 intro r hr
 by_cases e:r=i
 ·subst e;rw [zef];exact hx
 ·rw [zdy _ _ _ _ e];exact h r hr
theorem zhk{f:Nat→Rg}{g:Nat→Int}{n:Nat}(h:∀ r,r<n→(f r).In (g r)){i:Nat}{v:Rg}(hv:v.In (g i)):∀ r,r<n→(updR f i v r).In (g r):=by
 intro r hr
 by_cases e:r=i
 ·subst e;rw [zd0];exact hv
 ·rw [zg3 _ _ _ _ e];exact h r hr
theorem zqs{c:Nat→Rg}{g:Nat→Int}{a n j:Nat}(h1:a≤j)(h2:j≤a+n)(h:(c j).In (g j)):(zct c a n).In (g j):=by
 induction n with
 | zero =>
  have e:j=a:=by omega
  subst e;exact h
 | succ n ih =>
  by_cases e:j=a+(n+1)
  ·subst e;exact zhj h _
  ·exact zki (ih (by omega)) _
theorem zqt{c:Nat→Rg}{a n:Nat}(h:∀ j,a≤j→j≤a+n→(c j).Ok):(zct c a n).Ok:=by
 induction n with
 | zero=>exact h a (Nat.le_refl _) (Nat.le_refl _)
 | succ n ih=>exact zv2 (ih (fun j h1 h2=>h j h1 (by omega))) (h _ (by omega) (by omega))
theorem zv7{c:Nat→Rg}{g:Nat→Int}{a b j:Nat}{v:Rg}{x:Int}(h:∀ r,r<16→(c r).In (g r))(h1:a≤j)(h2:j≤b)(hv:v.In x):∀ r,r<16→(zaL c a b v r).In (upd g j x r):=by
 intro r hr
 unfold zaL
 split
 ·rename_i e
  have e2:a=j:=by omega
  rw [e2]
  exact zic h hv r hr
 ·dsimp only
  by_cases e:r=j
  ·subst e
   rw [if_pos ⟨h1,h2⟩,zef]
   exact zhj hv _
  ·rw [zdy _ _ _ _ e]
   split
   ·exact zki (h r hr) _
   ·exact h r hr
theorem zv8{c:Nat→Rg}{a b:Nat}{v:Rg}(h:∀ r,r<16→(c r).Ok)(hv:v.Ok):∀ r,r<16→(zaL c a b v r).Ok:=by
 intro r hr
 unfold zaL
 split
 ·exact zei h hv r hr
 ·dsimp only
  split
  ·exact zv2 (h r hr) hv
  ·exact h r hr
theorem zjv{r:Rg}{x:Int}{a b:Nat}(h:zcc r=some (a,b))(hx:r.In x):∃ j:Nat,x=(j:Int)∧j<16∧a≤j∧j≤b∧b≤15:=by
 unfold zcc at h
 unfold Rg.In at hx
 split at h
 ·rename_i hc
  simp only [Option.some.injEq,Prod.mk.injEq] at h
  obtain⟨rfl,rfl⟩:=h
  exact⟨x.toNat,by omega,by omega,by omega,by omega,by omega⟩
 ·cases h
theorem zqu{r:Rg}{a b:Nat}(h:zcc r=some (a,b))(hr:r.Ok):a≤b∧b≤15:=by
 unfold zcc at h
 unfold Rg.Ok at hr
 split at h
 ·rename_i hc
  simp only [Option.some.injEq,Prod.mk.injEq] at h
  obtain⟨rfl,rfl⟩:=h
  omega
 ·cases h
def zxv(ks:List Kn)(m:Mc):Prop:=(m.fin=0∧∃ k∈ks,Cov k m)∨m.fin=1∨m.fin=2
theorem Cov.on{k:Kn}{m m1:Mc}{ks:List Kn}(c:Cov k m){f:Nat→Rg}{g:Nat→Rg}{z:Int}(hk:{ k with regs:=f,cells:=g }.goTo z∈ks)(h0:m1.fin=0)(h1:∀ r,r<8→(f r).In (m1.regs r))(h2:∀ r,r<16→(g r).In (m1.cells r))(h3:m1.backs=m.backs)(h4:m1.steps=m.steps):
  zxv ks (m1.goes z):=.inl ⟨h0,_,hk,⟨h1,h2,rfl,by show m1.backs=k.behind;rw [h3];exact c.behind,by show m1.steps+1=k.steps+1;rw [h4,c.steps]⟩⟩
theorem zbL{α:Type}(a:α):a∈[a]:=List.mem_singleton.2 rfl
theorem zgP{k:Kn}{m:Mc}(c:Cov k m)(hfin:m.fin=0){l r:Nat}(_hl:l<8)(_hr:r<8)(hne:¬l=r){holds fails:Rg→Rg→Option (Rg × Rg)}{P:Prop} [Decidable P] {to:Int}
  (h1:P→∃ a b,holds (k.regs l) (k.regs r)=some (a,b)∧a.In (m.regs l)∧b.In (m.regs r)) (h2:¬P→∃ a b,fails (k.regs l) (k.regs r)=some (a,b)∧a.In (m.regs l)∧b.In (m.regs r)) :
  zxv (zb5 k l r holds fails to) (m.goes (if P then to else m.at'+1)):=by
 have hne':¬r=l:=fun e=>hne e.symm
 by_cases hP:P
 ·rw [if_pos hP]
  obtain⟨a,b,e,ha,hb⟩:=h1 hP
  have hin:∀ q,q<8→(updR (updR k.regs l a) r b q).In (m.regs q):=zhk (zhk c.regs ha) hb
  unfold zb5
  rw [e]
  cases fails (k.regs l) (k.regs r) with
  | none=>exact c.on (g:=k.cells) (zbL _) hfin hin c.cells rfl rfl
  | some q=>exact c.on (g:=k.cells) (List.mem_cons_self) hfin hin c.cells rfl rfl
 ·rw [if_neg hP]
  obtain⟨a,b,e,ha,hb⟩:=h2 hP
  have hin:∀ q,q<8→(updR (updR k.regs l a) r b q).In (m.regs q):=zhk (zhk c.regs ha) hb
  unfold zb5
  rw [e,c.next]
  cases holds (k.regs l) (k.regs r) with
  | none=>exact c.on (g:=k.cells) (zbL _) hfin hin c.cells rfl rfl
  | some q=>exact c.on (g:=k.cells) (List.mem_cons_of_mem _ (zbL _)) hfin hin c.cells rfl rfl
theorem znk{k:Kn}{m:Mc}{i:Ins}{ks:List Kn}(c:Cov k m)(K:KnOk k)(M:Mc64 m)(hi:zgW i)(h64:zkj i)(hfin:m.fin=0)(hf:m.frames=(m.backs.length:Int)+1)(h:za1 i k=some ks):zxv ks (zaW i m):=by
 have hn:=c.next
 cases i with
 | set r n =>
  simp only [za1,Option.some.injEq] at h
  subst h
  rw [zai (.inl rfl) hfin,show exec (.set r n) (m.at'+1) m=Mc.goes { m with regs:=upd m.regs r n } (m.at'+1) from rfl,hn]
  exact c.on (g:=k.cells) (zbL _) hfin (zic c.regs (zg2 n)) c.cells rfl rfl
 | mov r s =>
  simp only [za1,Option.some.injEq] at h
  subst h
  rw [zai (.inl rfl) hfin,show exec (.mov r s) (m.at'+1) m=Mc.goes { m with regs:=upd m.regs r (m.regs s) } (m.at'+1) from rfl,hn]
  exact c.on (g:=k.cells) (zbL _) hfin (zic c.regs (c.regs s hi.2)) c.cells rfl rfl
 | alu o r s t =>
  simp only [za1,Option.some.injEq] at h
  subst h
  obtain⟨_,hr,hs,ht⟩:=hi
  rw [zai (.inl rfl) hfin,show exec (.alu o r s t) (m.at'+1) m=Mc.goes { m with regs:=upd m.regs r (zbr o (m.regs s) (m.regs t)) } (m.at'+1) from rfl,hn]
  refine c.on (g:=k.cells) (zbL _) hfin (zic c.regs ?_) c.cells rfl rfl
  unfold zbr
  split
  ·exact ztb (K.regs s hs) (K.regs t ht) (c.regs s hs) (c.regs t ht)
  ·split
   ·split
    ·rename_i e
     subst e
     rw [show m.regs s-m.regs s=0 by omega]
     exact zg2 0
    ·exact zv3 (K.regs s hs) (K.regs t ht) (c.regs s hs) (c.regs t ht)
   ·exact zv5 (K.regs s hs) (K.regs t ht) (c.regs s hs) (c.regs t ht)
 | inc r n =>
  simp only [za1,Option.some.injEq] at h
  subst h
  rw [zai (.inl rfl) hfin,show exec (.inc r n) (m.at'+1) m=Mc.goes { m with regs:=upd m.regs r (w64 (m.regs r+n)) } (m.at'+1) from rfl,hn]
  exact c.on (g:=k.cells) (zbL _) hfin (zic c.regs (ztb (K.regs r hi) (zib h64) (c.regs r hi) (zg2 n))) c.cells rfl rfl
 | load r s =>
  simp only [za1] at h
  cases ht:zcc (k.regs s) with
  | none=>rw [ht] at h;cases h
  | some q =>
   obtain⟨a,b⟩:=q
   rw [ht] at h
   simp only [Option.some.injEq] at h
   subst h
   obtain⟨j,hj,hj16,h1,h2,_⟩:=zjv ht (c.regs s hi.2)
   have hneg:¬(m.regs s<0∨15<m.regs s):=by omega
   have e1:exec (.load r s) (m.at'+1) m={ m with regs:=upd m.regs r (m.cells (m.regs s).toNat) }.goes (m.at'+1):=if_neg hneg
   rw [zai (.inl (by rw [e1];rfl)) hfin,e1,hn,hj,Int.toNat_natCast]
   exact c.on (g:=k.cells) (zbL _) hfin (zic c.regs (zqs h1 (by omega) (c.cells j hj16))) c.cells rfl rfl
 | store r s =>
  simp only [za1] at h
  cases ht:zcc (k.regs r) with
  | none=>rw [ht] at h;cases h
  | some q =>
   obtain⟨a,b⟩:=q
   rw [ht] at h
   simp only [Option.some.injEq] at h
   subst h
   obtain⟨j,hj,hj16,h1,h2,_⟩:=zjv ht (c.regs r hi.1)
   have hneg:¬(m.regs r<0∨15<m.regs r):=by omega
   have e1:exec (.store r s) (m.at'+1) m={ m with cells:=upd m.cells (m.regs r).toNat (m.regs s) }.goes (m.at'+1):=if_neg hneg
   rw [zai (.inl (by rw [e1];rfl)) hfin,e1,hn,hj,Int.toNat_natCast]
   exact c.on (f:=k.regs) (zbL _) hfin c.regs (zv7 c.cells h1 h2 (c.regs s hi.2)) rfl rfl
 | read r =>
  simp only [za1,Option.some.injEq] at h
  subst h
  rw [zai (.inl rfl) hfin,show exec (.read r) (m.at'+1) m=Mc.goes { m with regs:=upd m.regs r (m.inp.headD 0),inp:=m.inp.tail } (m.at'+1) from rfl,hn]
  refine c.on (g:=k.cells) (zbL _) hfin (zic c.regs (zsX ?_)) c.cells rfl rfl
  cases hin:m.inp with
  | nil=>unfold i64;simp
  | cons x t=>exact M.inp x (by rw [hin];exact List.mem_cons_self)
 | write r =>
  simp only [za1,Option.some.injEq] at h
  subst h
  rw [zai (.inl rfl) hfin,show exec (.write r) (m.at'+1) m=Mc.goes { m with out:=m.out++[m.regs r] } (m.at'+1) from rfl,hn]
  exact c.on (f:=k.regs) (g:=k.cells) (zbL _) hfin c.regs c.cells rfl rfl
 | jump to =>
  simp only [za1,Option.some.injEq] at h
  subst h
  rw [zai (.inl rfl) hfin,show exec (.jump to) (m.at'+1) m=Mc.goes m to from rfl]
  exact c.on (f:=k.regs) (g:=k.cells) (zbL _) hfin c.regs c.cells rfl rfl
 | less r s to =>
  rw [zai (.inl rfl) hfin,show exec (.less r s to) (m.at'+1) m=m.goes (if m.regs r<m.regs s then to else m.at'+1) from rfl]
  simp only [za1] at h
  split at h
  ·rename_i e
   subst e
   simp only [Option.some.injEq] at h
   subst h
   rw [if_neg (by omega),hn]
   exact c.on (f:=k.regs) (g:=k.cells) (zbL _) hfin c.regs c.cells rfl rfl
  ·rename_i e
   simp only [Option.some.injEq] at h
   subst h
   exact zgP c hfin hi.1 hi.2 e (fun hp=>zxr (c.regs r hi.1) (c.regs s hi.2) hp) (fun hp=>zqo (c.regs r hi.1) (c.regs s hi.2) hp)
 | same r s to =>
  rw [zai (.inl rfl) hfin,show exec (.same r s to) (m.at'+1) m=m.goes (if m.regs r=m.regs s then to else m.at'+1) from rfl]
  simp only [za1] at h
  split at h
  ·rename_i e
   subst e
   simp only [Option.some.injEq] at h
   subst h
   rw [if_pos rfl]
   exact c.on (f:=k.regs) (g:=k.cells) (zbL _) hfin c.regs c.cells rfl rfl
  ·rename_i e
   simp only [Option.some.injEq] at h
   subst h
   exact zgP c hfin hi.1 hi.2 e (fun hp=>zxs (c.regs r hi.1) (c.regs s hi.2) hp) (fun hp=>zqp (c.regs r hi.1) (c.regs s hi.2) hp)
 | call to =>
  simp only [za1] at h
  split at h
  ·cases h
  ·rename_i e
   simp only [Option.some.injEq] at h
   subst h
   have hbl:=congrArg List.length c.behind
   have h16:¬m.frames=16:=by omega
   have e1:exec (.call to) (m.at'+1) m={ m with backs:=m.backs++[m.at'+1],frames:=m.frames+1,peak:=max m.peak (m.frames+1) }.goes to:=if_neg h16
   rw [zai (.inl (by rw [e1];rfl)) hfin,e1]
   refine .inl ⟨hfin,_,zbL _,⟨c.regs,c.cells,rfl,?_,?_⟩⟩
   ·show m.backs++[m.at'+1]=k.behind++[k.next+1]
    rw [c.behind,hn]
   ·show m.steps+1=k.steps+1
    rw [c.steps]
 | back =>
  simp only [za1] at h
  have hb:=c.behind
  cases hbe:k.behind with
  | nil =>
   rw [hbe] at hb
   have h1:m.frames=1:=by rw [hf,hb];rfl
   refine .inr (.inr ?_)
   have e0:exec .back (m.at'+1) m={ m with frames:=0,fin:=2 }.goes (-1):=if_pos h1
   unfold zaW
   rw [e0,if_pos (.inr rfl)];rfl
  | cons b r =>
   rw [hbe] at h hb
   simp only [Option.some.injEq] at h
   subst h
   have h1:¬m.frames=1:=by rw [hf,hb];simp;omega
   have e0:exec .back (m.at'+1) m={ m with frames:=m.frames-1,backs:=m.backs.dropLast }.goes (m.backs.getLastD 0):=if_neg h1
   rw [zai (.inl (by rw [e0];rfl)) hfin,e0]
   refine .inl ⟨hfin,_,zbL _,⟨c.regs,c.cells,?_,?_,?_⟩⟩
   ·show m.backs.getLastD 0=(b :: r).getLastD 0
    rw [hb]
   ·show m.backs.dropLast=(b :: r).dropLast
    rw [hb]
   ·show m.steps+1=k.steps+1
    rw [c.steps]
 | stop =>
  refine .inr (.inl ?_)
  unfold zaW
  rw [show exec .stop (m.at'+1) m={ m with fin:=1 }.goes (-1) from rfl,if_pos (.inl rfl)];rfl
end Go.Proofs.YtfpgjkbjbbgciaaGreatDoor
