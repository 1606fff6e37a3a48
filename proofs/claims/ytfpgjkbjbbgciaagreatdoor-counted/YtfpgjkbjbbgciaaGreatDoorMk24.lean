import Derived.Test.YtfpgjkbjbbgciaaGreatDoorMk19
set_option maxRecDepth 100000
set_option maxHeartbeats 8000000
namespace Go.Proofs.YtfpgjkbjbbgciaaGreatDoor
section
open Go.RowKit Sp
theorem zqH(i:Ins)(next:Int)(m:Mc)(h:m.fin=0):
  (((exec i next m).fin=0∧(exec i next m).steps=m.steps+1)∨(((exec i next m).fin=1∨(exec i next m).fin=2)∧(exec i next m).at'=-1∧(exec i next m).steps=m.steps+1)∨(((exec i next m).fin=3∨(exec i next m).fin=4)∧(exec i next m).at'=m.at'∧(exec i next m).steps=m.steps))∧(exec i next m).inp.length≤m.inp.length:=by
 cases i with
 | load r s =>
  simp only [exec];split
  ·exact⟨.inr (.inr ⟨.inl rfl,rfl,rfl⟩),Nat.le_refl _⟩
  ·exact⟨.inl ⟨h,rfl⟩,Nat.le_refl _⟩
 | store r s =>
  simp only [exec];split
  ·exact⟨.inr (.inr ⟨.inl rfl,rfl,rfl⟩),Nat.le_refl _⟩
  ·exact⟨.inl ⟨h,rfl⟩,Nat.le_refl _⟩
 | call to =>
  simp only [exec];split
  ·exact⟨.inr (.inr ⟨.inr rfl,rfl,rfl⟩),Nat.le_refl _⟩
  ·exact⟨.inl ⟨h,rfl⟩,Nat.le_refl _⟩
 | back =>
  simp only [exec];split
  ·exact⟨.inr (.inl ⟨.inr rfl,rfl,rfl⟩),Nat.le_refl _⟩
  ·exact⟨.inl ⟨h,rfl⟩,Nat.le_refl _⟩
 | stop=>exact⟨.inr (.inl ⟨.inl rfl,rfl,rfl⟩),Nat.le_refl _⟩
 | read r =>
  refine⟨.inl ⟨h,rfl⟩,?_⟩;show m.inp.tail.length≤_;simp
 | set r k=>exact⟨.inl ⟨h,rfl⟩,Nat.le_refl _⟩
 | mov r s=>exact⟨.inl ⟨h,rfl⟩,Nat.le_refl _⟩
 | alu o r s t=>exact⟨.inl ⟨h,rfl⟩,Nat.le_refl _⟩
 | inc r k=>exact⟨.inl ⟨h,rfl⟩,Nat.le_refl _⟩
 | write r=>exact⟨.inl ⟨h,rfl⟩,Nat.le_refl _⟩
 | jump to=>exact⟨.inl ⟨h,rfl⟩,Nat.le_refl _⟩
 | less r s to=>exact⟨.inl ⟨h,rfl⟩,Nat.le_refl _⟩
 | same r s to=>exact⟨.inl ⟨h,rfl⟩,Nat.le_refl _⟩
theorem zxd(l r:Rg)(w:World):Calls Tryz.prog 276 #[rv l,rv r] w (zey w l r (zex l r)):=by
 have hb1:=zck (max l.lo r.lo) (min l.hi r.hi);by_cases h:max l.lo r.lo≤min l.hi r.hi
 ·have b:zex l r=some (⟨max l.lo r.lo,min l.hi r.hi⟩,⟨max l.lo r.lo,min l.hi r.hi⟩):=by unfold zex;rw [if_pos h]
  rw [b];have a:=zga w (.cells #[.int .i64 l.lo,.int .i64 l.hi] 213) (.cells #[.int .i64 r.lo,.int .i64 r.hi] 213) (.cells #[.int .i64 0,.int .i64 0] 213) (.cells #[.int .i64 0,.int .i64 0] 213) (max l.lo r.lo) (min l.hi r.hi);go_enter Tryz.func276,Tryz.ntmps276;go_wp2;go_region_held3 (fun W=>W.cell? ⟨w.heap.size+1+1+1+1,0,none⟩=some (.int .i64 (max l.lo r.lo))∧W.cell? ⟨w.heap.size+1+1+1+1,1,none⟩=some (.int .i64 (min l.hi r.hi)))
   (first|exact zga _ _ _ _ _ _ _|go_keep)
   (fail)
  all_goals go_wp2
  all_goals exact zez (l:=⟨max l.lo r.lo,min l.hi r.hi⟩) (r:=⟨max l.lo r.lo,min l.hi r.hi⟩) Tryz.results276 rfl rfl rfl rfl (za5 box1 (zaR _ _ _ _ _ _ 0)) (za5 box1 (zaR _ _ _ _ _ _ 1)) (za5 box1 (zaC _ _ _ _ _ _ 0)) (za5 box1 (zaC _ _ _ _ _ _ 1)) ⟨(zbV.alloc (by simp;omega) _).drew,rfl⟩
 ·have b:zex l r=none:=by unfold zex;rw [if_neg h]
  have hdec:decide (max l.lo r.lo≤min l.hi r.hi)=false:=by simpa using h
  rw [b];have a:=zga w (.cells #[.int .i64 l.lo,.int .i64 l.hi] 213) (.cells #[.int .i64 r.lo,.int .i64 r.hi] 213) (.cells #[.int .i64 0,.int .i64 0] 213) (.cells #[.int .i64 0,.int .i64 0] 213) (max l.lo r.lo) (min l.hi r.hi);go_enter Tryz.func276,Tryz.ntmps276;go_wp2;go_region_held3 (fun W=>W.cell? ⟨w.heap.size+1+1+1+1,0,none⟩=some (.int .i64 (max l.lo r.lo))∧W.cell? ⟨w.heap.size+1+1+1+1,1,none⟩=some (.int .i64 (min l.hi r.hi)))
   (first|exact zga _ _ _ _ _ _ _|go_keep)
   (fail)
  all_goals go_wp2
  all_goals exact zez (l:=⟨max l.lo r.lo,min l.hi r.hi⟩) (r:=⟨max l.lo r.lo,min l.hi r.hi⟩) Tryz.results276 rfl rfl rfl rfl (za5 box1 (zaR _ _ _ _ _ _ 0)) (za5 box1 (zaR _ _ _ _ _ _ 1)) (za5 box1 (zaC _ _ _ _ _ _ 0)) (za5 box1 (zaC _ _ _ _ _ _ 1)) ⟨(zbV.alloc (by simp;omega) _).drew,_,_,by first|rfl|rw [hdec]⟩
end
section
open Sp
theorem zte(L:List Said)(k:Nat)(q:Said)(x1:ByteArray)(h:q.kept=[⟨#[106,117,109,112]⟩,x1]):insQ L k q=.jump (zhq L k x1):=by
 obtain⟨kd,kp,ok⟩:=q;cases h;kernel_rfl
theorem ztf(L:List Said)(k:Nat)(q:Said)(x1 x2 x3:ByteArray)(h:q.kept=[⟨#[108,101,115,115]⟩,x1,x2,x3]):insQ L k q=.less (regN x1) (regN x2) (zhq L k x3):=by
 obtain⟨kd,kp,ok⟩:=q;cases h;kernel_rfl
theorem ztg(L:List Said)(k:Nat)(q:Said)(x1 x2 x3:ByteArray)(h:q.kept=[⟨#[115,97,109,101]⟩,x1,x2,x3]):insQ L k q=.same (regN x1) (regN x2) (zhq L k x3):=by
 obtain⟨kd,kp,ok⟩:=q;cases h;kernel_rfl
theorem zth(L:List Said)(k:Nat)(q:Said)(x1:ByteArray)(h:q.kept=[⟨#[99,97,108,108]⟩,x1]):insQ L k q=.call (fnTo L x1):=by
 obtain⟨kd,kp,ok⟩:=q;cases h;kernel_rfl
theorem zti(L:List Said)(k:Nat)(q:Said)(h:q.kept=[⟨#[98,97,99,107]⟩]):insQ L k q=.back:=by
 obtain⟨kd,kp,ok⟩:=q;cases h;kernel_rfl
theorem ztj(L:List Said)(k:Nat)(q:Said)(h:q.kept=[⟨#[115,116,111,112]⟩]):insQ L k q=.stop:=by
 obtain⟨kd,kp,ok⟩:=q;cases h;kernel_rfl
theorem zwg(L:List Said)(k:Nat)(q:Said)(x1 x2:ByteArray)(h:q.kept=[⟨#[115,101,116]⟩,x1,x2]):insQ L k q=.set (regN x1) (zb3 x2).1:=by
 obtain⟨kd,kp,ok⟩:=q;cases h;kernel_rfl
theorem zwh(L:List Said)(k:Nat)(q:Said)(x1 x2:ByteArray)(h:q.kept=[⟨#[109,111,118]⟩,x1,x2]):insQ L k q=.mov (regN x1) (regN x2):=by
 obtain⟨kd,kp,ok⟩:=q;cases h;kernel_rfl
theorem zwi(L:List Said)(k:Nat)(q:Said)(x1 x2 x3:ByteArray)(h:q.kept=[⟨#[97,100,100]⟩,x1,x2,x3]):insQ L k q=.alu 0 (regN x1) (regN x2) (regN x3):=by
 obtain⟨kd,kp,ok⟩:=q;cases h;kernel_rfl
theorem zwj(L:List Said)(k:Nat)(q:Said)(x1 x2 x3:ByteArray)(h:q.kept=[⟨#[115,117,98]⟩,x1,x2,x3]):insQ L k q=.alu 1 (regN x1) (regN x2) (regN x3):=by
 obtain⟨kd,kp,ok⟩:=q;cases h;kernel_rfl
theorem zwk(L:List Said)(k:Nat)(q:Said)(x1 x2 x3:ByteArray)(h:q.kept=[⟨#[109,117,108]⟩,x1,x2,x3]):insQ L k q=.alu 2 (regN x1) (regN x2) (regN x3):=by
 obtain⟨kd,kp,ok⟩:=q;cases h;kernel_rfl
theorem zwl(L:List Said)(k:Nat)(q:Said)(x1 x2:ByteArray)(h:q.kept=[⟨#[105,110,99]⟩,x1,x2]):insQ L k q=.inc (regN x1) (zb3 x2).1:=by
 obtain⟨kd,kp,ok⟩:=q;cases h;kernel_rfl
theorem ztk(L:List Said)(k:Nat)(q:Said)(x1 x2:ByteArray)(h:q.kept=[⟨#[108,111,97,100]⟩,x1,x2]):insQ L k q=.load (regN x1) (regN x2):=by
 obtain⟨kd,kp,ok⟩:=q;cases h;kernel_rfl
theorem zqF(L:List Said)(k:Nat)(q:Said)(x1 x2:ByteArray)(h:q.kept=[⟨#[115,116,111,114,101]⟩,x1,x2]):insQ L k q=.store (regN x1) (regN x2):=by
 obtain⟨kd,kp,ok⟩:=q;cases h;kernel_rfl
theorem ztl(L:List Said)(k:Nat)(q:Said)(x1:ByteArray)(h:q.kept=[⟨#[114,101,97,100]⟩,x1]):insQ L k q=.read (regN x1):=by
 obtain⟨kd,kp,ok⟩:=q;cases h;kernel_rfl
theorem zqG(L:List Said)(k:Nat)(q:Said)(x1:ByteArray)(h:q.kept=[⟨#[119,114,105,116,101]⟩,x1]):insQ L k q=.write (regN x1):=by
 obtain⟨kd,kp,ok⟩:=q;cases h;kernel_rfl
end
section
open Go.RowKit Sp
def InC(N:Nat)(z:Int):Prop:=∃ k:Nat,z=(k:Int)∧k<N
def ztm(N p:Nat):Ins→Prop
 | .jump to=>InC N to
 | .less _ _ to=>InC N to∧p+1<N
 | .same _ _ to=>InC N to∧p+1<N
 | .call to=>InC N to∧p+1<N
 | .back=>True
 | .stop=>True
 | _=>p+1<N
structure InvD(N:Nat)(m:Mc):Prop where
 at_:InC N m.at'
 backs:∀ z∈m.backs,InC N z
 frames:m.frames=if m.fin=2 then 0 else(m.backs.length:Int)+1
 few:m.backs.length≤15
 peak:∃ p:Nat,m.peak=(p:Int)∧p≤16
 steps:0≤m.steps
 out:(m.out.length:Int)≤m.steps
theorem InvD.inv{N:Nat}{m:Mc}(I:InvD N m)(hN:N≤300)(h:m.fin=0):InvC m:=by
 obtain⟨k,hk,hlt⟩:=I.at_;have a:=I.frames;rw [if_neg (by omega)] at a;exact⟨by omega,by omega,a,I.few,I.peak,I.steps,I.out⟩
theorem InvD.goes{N:Nat}{m m1:Mc}{z:Int}(I:InvD N m)(h:InC N z)(e1:m1.backs=m.backs)(e2:m1.frames=m.frames)(e3:m1.peak=m.peak)(e4:m1.steps=m.steps)(e5:m1.out.length≤m.out.length+1)(e6:m1.fin=m.fin):InvD N (m1.goes z):=by
 have hs:=I.steps;have ho:=I.out;refine⟨h,?_,?_,?_,?_,?_,?_⟩
 ·show ∀ z∈m1.backs,_;rw [e1];exact I.backs
 ·show m1.frames=if m1.fin=2 then 0 else(m1.backs.length:Int)+1;rw [e1,e2,e6];exact I.frames
 ·show m1.backs.length≤15;rw [e1];exact I.few
 ·show ∃ p:Nat,m1.peak=(p:Int)∧p≤16;rw [e3];exact I.peak
 ·show 0≤m1.steps+1;omega
 ·show(m1.out.length:Int)≤m1.steps+1;omega
theorem InvD.fault{N:Nat}{m:Mc}{x:Int}(I:InvD N m)(h:m.fin=0)(hx:¬x=2):InvD N { m with fin:=x }:=by
 have a:=I.frames;rw [if_neg (by omega)] at a;exact⟨I.at_,I.backs,by show m.frames=if x=2 then 0 else(m.backs.length:Int)+1;rw [if_neg hx];exact a,I.few,I.peak,I.steps,I.out⟩
theorem InvD.step{N p:Nat}{m:Mc}{i:Ins}(I:InvD N m)(hfin:m.fin=0)(hp:m.at'=(p:Int))(hl:ztm N p i):InvD N (za2 i m):=by
 have a:p+1<N→InC N (m.at'+1):=fun h=>⟨p+1,by omega,h⟩
 have c:=I.frames;rw [if_neg (by omega)] at c;cases i with
 | set r k=>rw [zag (.inl rfl) hfin];exact I.goes (a hl) rfl rfl rfl rfl (Nat.le_succ _) rfl
 | mov r s=>rw [zag (.inl rfl) hfin];exact I.goes (a hl) rfl rfl rfl rfl (Nat.le_succ _) rfl
 | alu o r s t=>rw [zag (.inl rfl) hfin];exact I.goes (a hl) rfl rfl rfl rfl (Nat.le_succ _) rfl
 | inc r k=>rw [zag (.inl rfl) hfin];exact I.goes (a hl) rfl rfl rfl rfl (Nat.le_succ _) rfl
 | load r s =>
  by_cases e:m.regs s<0∨15<m.regs s
  ·have b:exec (.load r s) (m.at'+1) m={ m with fin:=3 }:=if_pos e;rw [zag (.inr (by rw [b];show(2:Int)<3;decide)) hfin,b];exact I.fault hfin (by decide)
  ·have b:exec (.load r s) (m.at'+1) m={ m with regs:=upd m.regs r (m.cells (m.regs s).toNat) }.goes (m.at'+1):=if_neg e;rw [zag (.inl (by rw [b];rfl)) hfin,b];exact I.goes (a hl) rfl rfl rfl rfl (Nat.le_succ _) rfl
 | store r s =>
  by_cases e:m.regs r<0∨15<m.regs r
  ·have b:exec (.store r s) (m.at'+1) m={ m with fin:=3 }:=if_pos e;rw [zag (.inr (by rw [b];show(2:Int)<3;decide)) hfin,b];exact I.fault hfin (by decide)
  ·have b:exec (.store r s) (m.at'+1) m={ m with cells:=upd m.cells (m.regs r).toNat (m.regs s) }.goes (m.at'+1):=if_neg e;rw [zag (.inl (by rw [b];rfl)) hfin,b];exact I.goes (a hl) rfl rfl rfl rfl (Nat.le_succ _) rfl
 | read r=>rw [zag (.inl rfl) hfin];exact I.goes (a hl) rfl rfl rfl rfl (Nat.le_succ _) rfl
 | write r=>rw [zag (.inl rfl) hfin];exact I.goes (a hl) rfl rfl rfl rfl (by show(m.out++[_]).length≤_;simp) rfl
 | jump to=>rw [zag (.inl rfl) hfin];exact I.goes hl rfl rfl rfl rfl (Nat.le_succ _) rfl
 | less r s to =>
  rw [zag (.inl rfl) hfin];refine I.goes (m1:=m) ?_ rfl rfl rfl rfl (Nat.le_succ _) rfl;split
  ·exact hl.1
  ·exact a hl.2
 | same r s to =>
  rw [zag (.inl rfl) hfin];refine I.goes (m1:=m) ?_ rfl rfl rfl rfl (Nat.le_succ _) rfl;split
  ·exact hl.1
  ·exact a hl.2
 | call to =>
  by_cases d:m.frames=16
  ·have b:exec (.call to) (m.at'+1) m={ m with fin:=4 }:=if_pos d;rw [zag (.inr (by rw [b];show(2:Int)<4;decide)) hfin,b];exact I.fault hfin (by decide)
  ·have b:exec (.call to) (m.at'+1) m={ m with backs:=m.backs++[m.at'+1],frames:=m.frames+1,peak:=max m.peak (m.frames+1) }.goes to:=if_neg d;rw [zag (.inl (by rw [b];rfl)) hfin,b];have v:=I.steps;have u:=I.out;have j:=I.few;obtain⟨y,hpk,hpk1⟩:=I.peak;refine⟨hl.1,?_,?_,?_,?_,?_,?_⟩
   ·show ∀ z∈m.backs++[m.at'+1],_;intro z f;rw [List.mem_append,List.mem_singleton] at f;rcases f with f|rfl
    ·exact I.backs z f
    ·exact a hl.2
   ·show m.frames+1=if m.fin=2 then 0 else((m.backs++[m.at'+1]).length:Int)+1
    rw [if_neg (by omega),c];simp
   ·show(m.backs++[m.at'+1]).length≤15;simp;omega
   ·show ∃ q:Nat,max m.peak (m.frames+1)=(q:Int)∧q≤16;exact⟨max y (m.backs.length+2),by rw [hpk,c];omega,by omega⟩
   ·show 0≤m.steps+1;omega
   ·show(m.out.length:Int)≤m.steps+1;omega
 | back =>
  have v:=I.steps;have u:=I.out;by_cases n:m.frames=1
  ·have l:exec .back (m.at'+1) m={ m with frames:=0,fin:=2 }.goes (-1):=if_pos n;have b:za2 .back m={ m with steps:=m.steps+1,frames:=0,fin:=2 }:=by
    unfold za2;rw [l,if_pos (.inr rfl)];rfl
   rw [b];exact⟨I.at_,I.backs,by show(0:Int)=if(2:Int)=2 then 0 else _;rw [if_pos rfl],I.few,I.peak,by show 0≤m.steps+1;omega,by show(m.out.length:Int)≤m.steps+1;omega⟩
  ·have l:exec .back (m.at'+1) m={ m with frames:=m.frames-1,backs:=m.backs.dropLast }.goes (m.backs.getLastD 0):=if_neg n;rw [zag (.inl (by rw [l];rfl)) hfin,l];obtain⟨J,x,w⟩:∃ I x,m.backs=I++[x]:=by
    rcases List.eq_nil_or_concat m.backs with h|⟨I,x,h⟩
    ·rw [h] at c;simp at c;omega
    ·exact⟨I,x,by rw [h,List.concat_eq_append]⟩
   have g:=I.backs;have j:=I.few;rw [w] at g j c;simp at j c;refine⟨?_,?_,?_,?_,I.peak,?_,?_⟩
   ·show InC N (m.backs.getLastD 0);rw [w];simp;exact g x (by simp)
   ·show ∀ z∈m.backs.dropLast,_;rw [w];simp;intro z f;exact g z (by simp [f])
   ·show m.frames-1=if m.fin=2 then 0 else(m.backs.dropLast.length:Int)+1
    rw [if_neg (by omega),w];simp;omega
   ·show m.backs.dropLast.length≤15;rw [w];simp;omega
   ·show 0≤m.steps+1;omega
   ·show(m.out.length:Int)≤m.steps+1;omega
 | stop =>
  have v:=I.steps;have u:=I.out;have b:za2 .stop m={ m with steps:=m.steps+1,fin:=1 }:=by
   unfold za2;rw [show exec .stop (m.at'+1) m={ m with fin:=1 }.goes (-1) from rfl,if_pos (.inl rfl)];rfl
  rw [b];exact⟨I.at_,I.backs,by show m.frames=if(1:Int)=2 then 0 else _;rw [if_neg (by decide)];exact c,I.few,I.peak,by show 0≤m.steps+1;omega,by show(m.out.length:Int)≤m.steps+1;omega⟩
theorem zfx(i:Ins)(m:Mc)(h:m.fin=0):
  (((za2 i m).fin=0∨(za2 i m).fin=1∨(za2 i m).fin=2)∧(za2 i m).steps=m.steps+1∨((za2 i m).fin=3∨(za2 i m).fin=4)∧(za2 i m).steps=m.steps)∧(za2 i m).inp.length≤m.inp.length:=by
 obtain⟨F,c⟩:=zqH i (m.at'+1) m h;unfold za2;rcases F with ⟨a,b⟩|⟨a,_,b⟩|⟨a,_,b⟩
 ·rw [if_neg (by omega)];exact⟨.inl ⟨.inl a,b⟩,c⟩
 ·rw [if_pos a];exact⟨.inl ⟨.inr a,b⟩,c⟩
 ·rw [if_neg (by omega)];exact⟨.inr ⟨a,b⟩,c⟩
def CodeIn(w:World)(g:Nat)(C:List (Ins × Int)):Prop:=∀ j (h:j<C.length),w.cell? ⟨g,j*2,none⟩=some (.iface (insT C[j].1) (.agg (insA C[j].1)))∧w.cell? ⟨g,j*2+1,none⟩=some (.int .i64 C[j].2)
structure CodeOk(C:List (Ins × Int)):Prop where
 some_:0<C.length
 few:C.length≤300
 ok:∀ j (h:j<C.length),zhs C[j].1
 leads:∀ j (h:j<C.length),ztm C.length j C[j].1
def zce(C:List (Ins × Int))(m:Mc):Mc:=match C[m.at'.toNat]? with|none=>m|some q=>za2 q.1 m
theorem zeH{C:List (Ins × Int)}{m:Mc}{k:Nat}(hk:m.at'=(k:Int))(h:k<C.length):zce C m=za2 C[k].1 m:=by
 unfold zce;rw [hk,Int.toNat_natCast,List.getElem?_eq_getElem h]
def zaY(inp:List Int):Mc:=⟨0,[],inp,0,fun _=>0,fun _=>0,[],1,1,0⟩
def zht(C:List (Ins × Int))(m:Mc):Int:=if m.fin=1∨m.fin=2 then 0 else(C[m.at'.toNat]?.map (·.2)).getD 0
theorem CodeIn.below{w w':World}{g B:Nat}{C:List (Ins × Int)}(h:CodeIn w g C)(hb:Below B w w')(hg:g<B):CodeIn w' g C:=fun j hj=>⟨(hb.cell (p:=⟨g,j*2,none⟩) hg).trans (h j hj).1,(hb.cell (p:=⟨g,j*2+1,none⟩) hg).trans (h j hj).2⟩
theorem zda{C:List (Ins × Int)}(K:CodeOk C)(inp:List Int):InvD C.length (zaY inp) :=
 ⟨⟨0,rfl,K.some_⟩,by simp [zaY],rfl,by simp [zaY],⟨1,rfl,by omega⟩,Int.le_refl _,Int.le_refl _⟩
end
end Go.Proofs.YtfpgjkbjbbgciaaGreatDoor
