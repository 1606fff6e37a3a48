import Derived.Test.YtfpgjkbjbbgciaaGreatDoorMj17
import Derived.Test.YtfpgjkbjbbgciaaGreatDoorMj20
set_option maxRecDepth 100000
set_option maxHeartbeats 8000000
namespace Go.Proofs.YtfpgjkbjbbgciaaGreatDoor
open Go.RowKit Sp
theorem zk2(m:Mc)(h:m.fin=0):Ending.returned (.bool true)=.returned (.bool (decide (¬(m.fin=3∨m.fin=4)))):=by
 rw [h];rfl
theorem zxR{w:World}{b wb wc g cap2 k:Nat}{L:List Said}{m:Mc}{bv iv ov:Value}{next:Int}{x1:ByteArray}(S:RStep w b wb wc g cap2 k L m bv iv ov [⟨#[114,101,97,100]⟩,x1] next)(r:Nat)(hr:r<8)(hreg:reg x1=(r:Int))(hin:m.inp.length≤1048576):
  qC 55 #[.pointer (some ⟨b,0,none⟩)] w (zbm w b g cap2 L (exec (.read r) next m)):=by
 have E:=S.st0;have S1:=S.st1;obtain⟨O,a,c,l,d⟩:=S.ref.inp;cases hl:m.inp with
 | nil =>
  rw [show exec (.read r) next m={ m with regs:=upd m.regs r 0 }.goes next by show({ m with regs:=upd m.regs r (m.inp.headD 0),inp:=m.inp.tail }:Mc).goes next=({ m with regs:=upd m.regs r 0,inp:=m.inp }:Mc).goes next;rw [hl];rfl];rw [hl] at c;exact S.does (fun n=>zbw (w.drewN n) b wb wc 1 [⟨#[114,101,97,100]⟩,x1] next rfl (by decide) (S.words.drewN n) (by kernel_rfl) (by kernel_rfl) (by kernel_rfl) (by kernel_rfl) (by kernel_rfl) (by kernel_rfl))
   (fun n=>zjg (w.drewN n) b wb wc r _ bv iv ov m x1 (S.ref.mem.drewN n) (S.words.drewN n) S.apart hr hreg O a c (S.sizes x1 (by simp))) S.fin rfl rfl rfl rfl
 | cons v rest =>
  rw [hl] at c l d hin;obtain⟨z,i,rfl,u,B,s⟩:=d (by simp);have t:=s 0 (by simp);simp only [List.getElem_cons_zero,Nat.add_zero] at t;have e1:exec (.read r) next m={ m with regs:=upd m.regs r v,inp:=rest }.goes next:=by simp only [exec,hl];rfl
  rw [e1];refine(zii w b wb wc 2 g cap2 k bv iv ov L m { m with regs:=upd m.regs r v,inp:=rest } S.ref.mem S.fin S.at_ S.lt S.few S.lines S.wd next S.next_
   (fun D y q x=>w.grownBy D (some b)∧y=bv∧(∃ o,q=.slice (some ⟨z,o,none⟩) rest.length (a-1)∧(rest.length=0∨o=i+1))∧x=ov) 0 (fun n=>zbw (w.drewN n) b wb wc 1 [⟨#[114,101,97,100]⟩,x1] next rfl (by decide) (S.words.drewN n) (by kernel_rfl) (by kernel_rfl) (by kernel_rfl) (by kernel_rfl) (by kernel_rfl) (by kernel_rfl))
   (fun n=>(zjh (w.drewN n) b wb wc r z i a rest.length _ bv iv ov m x1 (S.ref.mem.drewN n) (S.words.drewN n) S.apart hr hreg v rest c t (by omega) (by simpa using l) (by simp at hin;omega) (S.sizes x1 (by simp))).mono ?_) S.fin rfl rfl ⟨E,by show m.steps≤_;omega⟩).mono ?_
  ·rintro e M ⟨H,⟨o,I,J⟩,G⟩;exact⟨H,bv,_,ov,I,zaB G,rfl,⟨o,rfl,J⟩,rfl⟩
  ·rintro e M ⟨rfl,D,y,q,x,F,⟨N,rfl,⟨o,rfl,K⟩,rfl⟩,A⟩;have f:=zae N A;have C:=zdf S.ref.mem.lt f;refine⟨zk2 _ S.fin,_,_,_,⟨F,S.ref.backs.kept f (.inr (zbb S.ref.backs)),S.ref.out.kept f (.inr (zbb S.ref.out)),?_⟩,C⟩;refine⟨_,_,rfl,by simp at l;show rest.length≤_;omega,fun hp=>?_⟩;have hp':0<rest.length:=hp;have ho':o=i+1:=by rcases K with h|h;omega;exact h
   refine⟨z,i+1,by rw [ho'],u,Nat.lt_of_lt_of_le B C.size,fun j hj=>?_⟩;have hj':j<rest.length:=hj;rw [C.cell (p:=⟨z,i+1+j,none⟩) u];have:=s (j+1) (by simp;omega);simp only [List.getElem_cons_succ] at this;rw [show i+1+j=i+(j+1) by omega];exact this
theorem zvO{w:World}{b wb wc g cap2 k:Nat}{L:List Said}{m:Mc}{bv iv ov:Value}{next:Int}{x1:ByteArray}(S:RStep w b wb wc g cap2 k L m bv iv ov [⟨#[119,114,105,116,101]⟩,x1] next)(r:Nat)(hr:r<8)(hreg:reg x1=(r:Int))(hlen:m.out.length≤100000):
  qC 55 #[.pointer (some ⟨b,0,none⟩)] w (zbm w b g cap2 L (exec (.write r) next m)):=by
 have G:=S.st0;have S1:=S.st1;have p:=S.ref.mem.lt;have e1:exec (.write r) next m={ m with out:=m.out++[m.regs r] }.goes next:=rfl;rw [e1];refine(zii w b wb wc 2 g cap2 k bv iv ov L m { m with out:=m.out++[m.regs r] } S.ref.mem S.fin S.at_ S.lt S.few S.lines S.wd next S.next_
  (fun d t i s=>∃ v,w.grownBy v ov.ownBlock∧v.grownBy d (some b)∧t=bv∧i=iv∧d.ownsRow (b+1) 2 1 s (m.out.length+1) (i64s (m.out++[m.regs r]))) 0 (fun n=>zbw (w.drewN n) b wb wc 1 [⟨#[119,114,105,116,101]⟩,x1] next rfl (by decide) (S.words.drewN n) (by kernel_rfl) (by kernel_rfl) (by kernel_rfl) (by kernel_rfl) (by kernel_rfl) (by kernel_rfl))
  (fun n=>(zqr (w.drewN n) b wb wc r (b+1) _ bv iv ov m x1 (S.ref.mem.drewN n) (S.words.drewN n) S.apart hr hreg (S.sizes x1 (by simp)) S.ref.out (zbb S.ref.out) p hlen).mono ?_) S.fin rfl rfl ⟨G,by show m.steps≤_;omega⟩).mono ?_
 ·rintro e E ⟨I,D,c,d,rfl,F,a,B⟩;have y:some b≠ov.ownBlock:=fun e=>zbb S.ref.out e.symm;have z:RefM d b (.slice (some ⟨g,0,none⟩) L.length cap2) bv iv ov m:=(S.ref.mem.drewN n).of_block (F.block b p y);have x:¬D=b:=by
   rcases B with h|h
   ·intro e;rw [e] at h;exact zbb S.ref.out h
   ·have:w.heap.size≤D:=h;omega
  refine⟨I,bv,iv,_,z.setO _ _,d,zaB F,zac (Below.refl _ _),rfl,rfl,?_⟩;exact zaj a (fun q hq=>by
   have:D=q:=by simpa [Value.ownBlock] using hq
   subst this;exact Below.heap_setCell _ _ _ _ x)
 ·rintro e E ⟨rfl,d,t,i,s,H,⟨v,o,A,rfl,rfl,a⟩,f⟩;have l:=zae A f;have u:Below b w v:=(Below.refl b w).grown o (by omega) (fun q hq=>by have:=(S.ref.out.lt q hq).1;omega);have C:Below b w E:=u.trans ((Below.refl b v).grown l (by have:=u.size;omega) (fun j hj=>by cases hj;exact Nat.le_refl _));refine⟨zk2 _ S.fin,_,_,_,⟨H,?_,?_,S.ref.inp.below C⟩,C⟩
  ·exact(S.ref.backs.kept o (zdZ S.ref.backs S.ref.out (by decide))).kept l (.inr (zbb S.ref.backs))
  ·have:=a.kept f (.inr (zbb a));show World.ownsRow _ (b+1) 2 1 _ (m.out++[m.regs r]).length (i64s (m.out++[m.regs r]));rw [List.length_append];exact this
theorem zoF{w:World}{B g c:Nat}{I:List Int}{x:Int}(h:w.ownsRow B 3 1 (.slice (some ⟨g,0,none⟩) (I.length+1) c) (I.length+1) (i64s (I++[x]))):w.ownsRow B 3 1 (.slice (some ⟨g,0,none⟩) I.length c) I.length (i64s I):=by
 refine⟨by simp,?_⟩;rcases h.2 with ⟨a,_⟩|⟨g',c',b,a,e,f,hn,j,d,i⟩
 ·simp at a
 ·simp only [Value.slice.injEq,Option.some.injEq,Addr.mk.injEq,true_and,and_true] at a;obtain⟨rfl,rfl⟩:=a;refine .inr ⟨g,c,b,rfl,e,f,by omega,j,d,?_⟩;have:=congrArg (List.take I.length) i;rw [List.take_take] at this;simpa using this
theorem zxS{w:World}{b wb wc g cap2 k:Nat}{L:List Said}{m:Mc}{bv iv ov:Value}{next:Int}{x:ByteArray}(S:RStep w b wb wc g cap2 k L m bv iv ov [⟨#[99,97,108,108]⟩,x] next)(j f p:Nat)(hfn:zaN L x 0=(j:Int))(hj:j<L.length)(hf:m.frames=(f:Int))(hf1:f≤16)(hp:m.peak=(p:Int))(hp1:p≤16)(hlen:m.backs.length≤16):
  qC 55 #[.pointer (some ⟨b,0,none⟩)] w (zbm w b g cap2 L (exec (.call (zad L (j+1))) next m)):=by
 have N:=S.st0;have S1:=S.st1;have y:=S.ref.mem.lt;by_cases H:f=16
 ·subst H;rw [show exec (.call (zad L (j+1))) next m={ m with fin:=4 } by simp only [exec];rw [if_pos (show m.frames=16 by omega)]];refine(zsX w b wb wc 2 g cap2 k bv iv ov L m { m with fin:=4 } S.ref.mem S.fin S.at_ S.lt S.few S.lines S.wd next S.next_ (fun A h a d=>w.grownBy A (some b)∧h=bv∧a=iv∧d=ov) (k:Int)
   (fun n=>(zij (w.drewN n) b wb wc k _ bv iv ov m x next (S.ref.mem.drewN n) S.at_ (S.words.drewN n) (by omega)).mono ?_) rfl).mono ?_
  ·rintro e l ⟨t,u,v⟩;exact⟨t,bv,iv,ov,u,zaB v,rfl,rfl,rfl⟩
  ·rintro e l ⟨rfl,h,a,d,C,R,rfl,rfl,rfl⟩;obtain⟨M,Q⟩:=S.ref.same C R rfl rfl rfl;exact⟨rfl,_,_,_,M,Q⟩
 ·have E:¬m.frames=16:=by omega
  rw [show exec (.call (zad L (j+1))) next m={ m with backs:=m.backs++[next],frames:=m.frames+1,peak:=max m.peak (m.frames+1) }.goes (zad L (j+1)) by simp only [exec];rw [if_neg E]];have F:∀ n,qC 89 #[.pointer (some ⟨b,0,none⟩),.slice (some ⟨wb,0,none⟩) 2 wc,.int .i64 next] (w.drewN n) fun e l=>e=.returned (.tuple #[.int .i64 (zad L (j+1)),.bool true]) ∧
    ∃ h a d,RefM l b (.slice (some ⟨g,0,none⟩) L.length cap2) h a d { m with backs:=m.backs++[next],frames:=m.frames+1,peak:=max m.peak (m.frames+1) }∧∃ i,w.grownBy i bv.ownBlock∧i.grownBy l (some b)∧a=iv∧d=ov∧i.ownsRow (b+1) 3 1 h (m.backs.length+1) (i64s (m.backs++[next])):=by
   intro n;by_cases O:p≤f
   ·refine(zk0 (w.drewN n) b wb wc g cap2 (b+1) f p bv iv ov L m x next j (S.ref.mem.drewN n) (fun W hW=>S.low W ⟨hW.os,hW.tape,hW.output,hW.size,hW.block⟩) S.few (S.words.drewN n) hfn hj hf (by omega) hp hp1 O S.ref.backs (zbb S.ref.backs) y (by omega) hlen).mono ?_;rintro e l ⟨t,P,c,J,u,v,D,G⟩;refine⟨t,_,iv,ov,?_,J,zaB D,G,rfl,rfl,v⟩;rw [show max m.peak (m.frames+1)=(f:Int)+1 by omega,hf];exact u
   ·refine(zk1 (w.drewN n) b wb wc g cap2 (b+1) f p bv iv ov L m x next j (S.ref.mem.drewN n) (fun W hW=>S.low W ⟨hW.os,hW.tape,hW.output,hW.size,hW.block⟩) S.few (S.words.drewN n) hfn hj hf (by omega) hp hp1 (by omega) S.ref.backs (zbb S.ref.backs) y (by omega) hlen).mono ?_;rintro e l ⟨t,P,c,J,u,v,D,G⟩;refine⟨t,_,iv,ov,?_,J,zaB D,G,rfl,rfl,v⟩;rw [show max m.peak (m.frames+1)=m.peak by omega,hf];exact u
  refine(zgA w b wb wc 2 g cap2 k bv iv ov L m _ S.ref.mem S.fin S.at_ S.lt S.few S.lines S.wd next S.next_ (fun A h a d=>∃ i,w.grownBy i bv.ownBlock∧i.grownBy A (some b)∧a=iv∧d=ov∧i.ownsRow (b+1) 3 1 h (m.backs.length+1) (i64s (m.backs++[next]))) _ 0 F S.fin rfl rfl ⟨N,by show m.steps≤_;omega⟩).mono ?_;rintro e l ⟨rfl,A,h,a,d,C,⟨i,s,I,rfl,rfl,r⟩,B⟩;have o:=zae I B;have z:Below b w i:=(Below.refl b w).grown s (by omega) (fun q hq=>by have:=(S.ref.backs.lt q hq).1;omega);have K:Below b w l:=z.trans ((Below.refl b i).grown o (by have:=z.size;omega) (fun j hj=>by cases hj;exact Nat.le_refl _));refine⟨zk2 _ S.fin,_,_,_,⟨C,?_,?_,S.ref.inp.below K⟩,K⟩
  ·have:=r.kept o (.inr (zbb r));show World.ownsRow _ (b+1) 3 1 _ (m.backs++[next]).length (i64s (m.backs++[next]));rw [List.length_append];exact this
  ·exact(S.ref.out.kept s (zdZ S.ref.out S.ref.backs (by decide))).kept o (.inr (zbb S.ref.out))
theorem zxT{w:World}{b wb wc g cap2 k:Nat}{L:List Said}{m:Mc}{bv iv ov:Value}{next:Int}(S:RStep w b wb wc g cap2 k L m bv iv ov [⟨#[98,97,99,107]⟩] next)(f:Nat)(hf:m.frames=(f:Int)+1)(hf1:f≤15)(hlen:m.backs.length=f):
  qC 55 #[.pointer (some ⟨b,0,none⟩)] w (zbm w b g cap2 L (exec .back next m)):=by
 have B:=S.st0;have S1:=S.st1;have u:=S.ref.mem.lt;by_cases E:f=0
 ·subst E;rw [show exec .back next m={ m with frames:=0,fin:=2 }.goes (-1) by simp only [exec];rw [if_pos (by omega)]];exact S.moves (m1:={ m with frames:=0,fin:=2 }) (-1) 2 (fun n=>zjk (w.drewN n) b wb wc _ bv iv ov m next (S.ref.mem.drewN n) (S.words.drewN n) (by omega)) rfl (.inr (.inr rfl)) rfl rfl rfl rfl
 ·rw [show exec .back next m={ m with frames:=m.frames-1,backs:=m.backs.dropLast }.goes (m.backs.getLastD 0) by simp only [exec];rw [if_neg (by omega)]];obtain⟨I,x,A⟩:∃ I x,m.backs=I++[x]:=by
   rcases List.eq_nil_or_concat m.backs with h|⟨I,x,h⟩
   ·rw [h] at hlen;simp at hlen;omega
   ·exact⟨I,x,by rw [h,List.concat_eq_append]⟩
  have a:=S.ref.backs;have hIl:m.backs.length=I.length+1:=by rw [A];simp
  rw [hIl] at a;obtain⟨t,c,v,hgb,hgl⟩:=a.form (by omega);have o:I.length+1≤c:=by
   rcases a.2 with ⟨l,_⟩|⟨g',cap',cur,l,_,_,hnc,_⟩
   ·rw [v] at l;simp at l
   ·rw [v] at l;simp at l;omega
  have i:w.cell? ⟨t,I.length,none⟩=some (.int .i64 x):=by
   rw [v] at a;rw [World.ownsRow.cellAt a I.length (by omega),A];simp
  refine(zgA w b wb wc 1 g cap2 k bv iv ov L m { m with frames:=m.frames-1,backs:=m.backs.dropLast } S.ref.mem S.fin S.at_ S.lt S.few S.lines S.wd next S.next_ (fun z q j p=>w.grownBy z (some b)∧q=.slice (some ⟨t,0,none⟩) I.length c∧j=iv∧p=ov) (m.backs.getLastD 0) 0
   (fun n=>(zkz (w.drewN n) b wb wc t c I.length f _ bv iv ov m next x m.backs.dropLast (S.ref.mem.drewN n) (S.words.drewN n) hf (by omega) (by omega) v i (by omega) (by omega) o).mono ?_) S.fin rfl rfl ⟨B,by show m.steps≤_;omega⟩).mono ?_
  ·rintro e G ⟨h1,D,F⟩;refine⟨?_,_,iv,ov,D,zaB F,rfl,rfl,rfl⟩;rw [h1,A];simp
  ·rintro e G ⟨rfl,z,q,j,p,C,⟨H,rfl,rfl,rfl⟩,r⟩;have d:=zae H r;have y:=zdf u d;refine⟨zk2 _ S.fin,_,_,_,⟨C,?_,S.ref.out.kept d (.inr (zbb S.ref.out)),S.ref.inp.below y⟩,y⟩;have s:=a.kept d (.inr (zbb a));rw [v] at s;show World.ownsRow _ (b+1) 3 1 _ m.backs.dropLast.length (i64s m.backs.dropLast);rw [A] at s ⊢;simp only [List.dropLast_concat];exact zoF s
end Go.Proofs.YtfpgjkbjbbgciaaGreatDoor
