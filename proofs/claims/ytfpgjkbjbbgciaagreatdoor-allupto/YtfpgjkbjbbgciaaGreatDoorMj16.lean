import Derived.Test.YtfpgjkbjbbgciaaGreatDoorMj12
set_option maxRecDepth 100000
set_option maxHeartbeats 8000000
namespace Go.Proofs.YtfpgjkbjbbgciaaGreatDoor
section
open Go.RowKit Sp
theorem zgA(w:World)(b wb wc nw g cap2 k:Nat)(bv iv ov:Value)(L:List Said)(m m':Mc)(h:RefM w b (.slice (some ⟨g,0,none⟩) L.length cap2) bv iv ov m)(hfin:m.fin=0)(hat:m.at'=(k:Int))(hk:k<L.length)(hn:L.length≤300)(hL:LinesIn w g L)(hwd:w.cell? ⟨g,k*2+1,none⟩=some (.slice (some ⟨wb,0,none⟩) nw wc))(next:Int)(hnx:zad L (k+1)=next)(P:World→Value→Value→Value→Prop)(to z:Int)(hmv:∀ n,qC 89 #[.pointer (some ⟨b,0,none⟩),.slice (some ⟨wb,0,none⟩) nw wc,.int .i64 next] (w.drewN n) fun e w'=>e=.returned (.tuple #[.int .i64 to,.bool true])∧∃ bv' iv' ov',RefM w' b (.slice (some ⟨g,0,none⟩) L.length cap2) bv' iv' ov' m'∧P w' bv' iv' ov')(hz:m'.fin=z)(hz3:(z == 3)=false)(hz4:(z == 4)=false)(hst:0≤m'.steps∧m'.steps≤1000000):
  qC 55 #[.pointer (some ⟨b,0,none⟩)] w fun e w'=>e=.returned (.bool true)∧∃ w1 bv' iv' ov',RefM w' b (.slice (some ⟨g,0,none⟩) L.length cap2) bv' iv' ov' (m'.goes to)∧P w1 bv' iv' ov'∧w1.grownBy w' (some b):=by
 have f:=h.cE;rw [hfin] at f;have c:=h.cL;have a:=h.cAt;rw [hat] at a;have hk0:(0:Int)≤(k:Int):=by omega
 have hk1:(k:Int)<(L.length:Int):=by omega
 have hk2:k*2≤600:=by omega
 have i:∀ W,LinesIn W g L→qC 88 #[.slice (some ⟨g,0,none⟩) L.length cap2,.int .i64 ((k:Int)+1)] W fun e w'=>e=.returned (.int .i64 next)∧w'=W:=fun W hW=>by
  have:=zdn L g cap2 (k+1) W hW (by omega) (by omega);rw [hnx] at this;simpa using this
 clear hnx;go_enter Tryz.func55,Tryz.ntmps55;go_wp2_with fail
 go_quiet(fail)
 replace h:=h.drewN nq;replace hL:=hL.drewN nq;have j:Hid (∀ n,w.drewN (nq+n)=(w.drewN nq).drewN n):=fun n=>by rw [World.drewN_drewN]
 replace hmv:=fun n=>hmv (nq+n)
 simp only [j.out] at hmv;clear f c a hwd j;generalize w.drewN nq=w1 at h hL hmv ⊢;have c:=h.cL;have a:=h.cAt;rw [hat] at a;go_wp2_with fail
 go_quiet(first|(go_at_call 88;exact Calls.quiet_of_same (i _ (hL.drewN _))))
 replace hmv:=hmv nq;clear c a hL i;generalize w1.drewN nq=w2 at hmv ⊢;go_wp2_with(first|(go_at_call 89;refine hmv.mono ?_;rintro e l ⟨rfl,bv',iv',ov',d,o⟩;have p:=d.cE;have s3:=d.cS;have a3:=d.cAt;have fs3:=d.fz 4;have fa3:=d.fz 1;rw [hz] at p;obtain⟨st0,st1⟩:=hst))
 go_ret;exact⟨rfl,l,bv',iv',ov',(d.setS _).setAt to,o,zae (zac (Below.refl _ _)) (zac (Below.refl _ _))⟩
theorem zsX(w:World)(b wb wc nw g cap2 k:Nat)(bv iv ov:Value)(L:List Said)(m m':Mc)(h:RefM w b (.slice (some ⟨g,0,none⟩) L.length cap2) bv iv ov m)(hfin:m.fin=0)(hat:m.at'=(k:Int))(hk:k<L.length)(hn:L.length≤300)(hL:LinesIn w g L)(hwd:w.cell? ⟨g,k*2+1,none⟩=some (.slice (some ⟨wb,0,none⟩) nw wc))(next:Int)(hnx:zad L (k+1)=next)(P:World→Value→Value→Value→Prop)(to:Int)(hmv:∀ n,qC 89 #[.pointer (some ⟨b,0,none⟩),.slice (some ⟨wb,0,none⟩) nw wc,.int .i64 next] (w.drewN n) fun e w'=>e=.returned (.tuple #[.int .i64 to,.bool true])∧∃ bv' iv' ov',RefM w' b (.slice (some ⟨g,0,none⟩) L.length cap2) bv' iv' ov' m'∧P w' bv' iv' ov')(hz:m'.fin=4):
  qC 55 #[.pointer (some ⟨b,0,none⟩)] w fun e w'=>e=.returned (.bool false)∧∃ bv' iv' ov',RefM w' b (.slice (some ⟨g,0,none⟩) L.length cap2) bv' iv' ov' m'∧P w' bv' iv' ov':=by
 have d:=h.cE;rw [hfin] at d;have c:=h.cL;have a:=h.cAt;rw [hat] at a;have hk0:(0:Int)≤(k:Int):=by omega
 have hk1:(k:Int)<(L.length:Int):=by omega
 have hk2:k*2≤600:=by omega
 have f:∀ W,LinesIn W g L→qC 88 #[.slice (some ⟨g,0,none⟩) L.length cap2,.int .i64 ((k:Int)+1)] W fun e w'=>e=.returned (.int .i64 next)∧w'=W:=fun W hW=>by
  have:=zdn L g cap2 (k+1) W hW (by omega) (by omega);rw [hnx] at this;simpa using this
 clear hnx;go_enter Tryz.func55,Tryz.ntmps55;go_wp2_with fail
 go_quiet(fail)
 replace h:=h.drewN nq;replace hL:=hL.drewN nq;have j:Hid (∀ n,w.drewN (nq+n)=(w.drewN nq).drewN n):=fun n=>by rw [World.drewN_drewN]
 replace hmv:=fun n=>hmv (nq+n)
 simp only [j.out] at hmv;clear d c a hwd j;generalize w.drewN nq=w1 at h hL hmv ⊢;have c:=h.cL;have a:=h.cAt;rw [hat] at a;go_wp2_with fail
 go_quiet(first|(go_at_call 88;exact Calls.quiet_of_same (f _ (hL.drewN _))))
 replace hmv:=hmv nq;clear c a hL f;generalize w1.drewN nq=w2 at hmv ⊢;go_wp2_with(first|(go_at_call 89;refine hmv.mono ?_;rintro e w3 ⟨rfl,bv',iv',ov',i,l⟩;have o:=i.cE;rw [hz] at o))
 go_ret;exact⟨rfl,bv',iv',ov',i,l⟩
theorem zii(w:World)(b wb wc nw g cap2 k:Nat)(bv iv ov:Value)(L:List Said)(m m':Mc)(h:RefM w b (.slice (some ⟨g,0,none⟩) L.length cap2) bv iv ov m)(hfin:m.fin=0)(hat:m.at'=(k:Int))(hk:k<L.length)(hn:L.length≤300)(hL:LinesIn w g L)(hwd:w.cell? ⟨g,k*2+1,none⟩=some (.slice (some ⟨wb,0,none⟩) nw wc))(next:Int)(hnx:zad L (k+1)=next)(P:World→Value→Value→Value→Prop)(z:Int)(hmv:∀ n,qC 89 #[.pointer (some ⟨b,0,none⟩),.slice (some ⟨wb,0,none⟩) nw wc,.int .i64 next] (w.drewN n) fun e w'=>e=.returned (.tuple #[.int .i64 next,.bool false])∧w'=w.drewN n)(hdo:∀ n,qC 90 #[.pointer (some ⟨b,0,none⟩),.slice (some ⟨wb,0,none⟩) nw wc] (w.drewN n) fun e w'=>e=.returned (.tuple #[])∧∃ bv' iv' ov',RefM w' b (.slice (some ⟨g,0,none⟩) L.length cap2) bv' iv' ov' m'∧P w' bv' iv' ov')(hz:m'.fin=z)(hz3:(z == 3)=false)(hz4:(z == 4)=false)(hst:0≤m'.steps∧m'.steps≤1000000):
  qC 55 #[.pointer (some ⟨b,0,none⟩)] w fun e w'=>e=.returned (.bool true)∧∃ w1 bv' iv' ov',RefM w' b (.slice (some ⟨g,0,none⟩) L.length cap2) bv' iv' ov' (m'.goes next)∧P w1 bv' iv' ov'∧w1.grownBy w' (some b):=by
 have f:=h.cE;rw [hfin] at f;have c:=h.cL;have a:=h.cAt;rw [hat] at a;have hk0:(0:Int)≤(k:Int):=by omega
 have hk1:(k:Int)<(L.length:Int):=by omega
 have hk2:k*2≤600:=by omega
 have l:∀ W,LinesIn W g L→qC 88 #[.slice (some ⟨g,0,none⟩) L.length cap2,.int .i64 ((k:Int)+1)] W fun e w'=>e=.returned (.int .i64 next)∧w'=W:=fun W hW=>by
  have:=zdn L g cap2 (k+1) W hW (by omega) (by omega);rw [hnx] at this;simpa using this
 clear hnx;go_enter Tryz.func55,Tryz.ntmps55;go_wp2_with fail
 go_quiet(fail)
 replace h:=h.drewN nq;replace hL:=hL.drewN nq;have o:Hid (∀ n,w.drewN (nq+n)=(w.drewN nq).drewN n):=fun n=>by rw [World.drewN_drewN]
 replace hmv:=fun n=>hmv (nq+n)
 replace hdo:=fun n=>hdo (nq+n)
 simp only [o.out] at hmv hdo;clear f c a hwd o;generalize w.drewN nq=w1 at h hL hmv hdo ⊢;have c:=h.cL;have a:=h.cAt;rw [hat] at a;go_wp2_with fail
 go_quiet(first|(go_at_call 88;exact Calls.quiet_of_same (l _ (hL.drewN _))))
 replace hmv:=hmv nq;replace hdo:=hdo nq;clear c a hL l;generalize w1.drewN nq=w2 at hmv hdo ⊢;go_wp2_with(first|(go_at_call 89;refine hmv.mono ?_;rintro e wx ⟨rfl,i⟩;have j:=i.symm;subst j)|(go_at_call 90;refine hdo.mono ?_;rintro e p ⟨rfl,bv',iv',ov',d,q⟩;have r:=d.cE;have s3:=d.cS;have a3:=d.cAt;have fs3:=d.fz 4;have fa3:=d.fz 1;rw [hz] at r;obtain⟨st0,st1⟩:=hst))
 go_ret;exact⟨rfl,p,bv',iv',ov',(d.setS _).setAt next,q,zae (zac (Below.refl _ _)) (zac (Below.refl _ _))⟩
theorem zqw(w:World)(b wb wc nw g cap2 k:Nat)(bv iv ov:Value)(L:List Said)(m m':Mc)(h:RefM w b (.slice (some ⟨g,0,none⟩) L.length cap2) bv iv ov m)(hfin:m.fin=0)(hat:m.at'=(k:Int))(hk:k<L.length)(hn:L.length≤300)(hL:LinesIn w g L)(hwd:w.cell? ⟨g,k*2+1,none⟩=some (.slice (some ⟨wb,0,none⟩) nw wc))(next:Int)(hnx:zad L (k+1)=next)(P:World→Value→Value→Value→Prop)(hmv:∀ n,qC 89 #[.pointer (some ⟨b,0,none⟩),.slice (some ⟨wb,0,none⟩) nw wc,.int .i64 next] (w.drewN n) fun e w'=>e=.returned (.tuple #[.int .i64 next,.bool false])∧w'=w.drewN n)(hdo:∀ n,qC 90 #[.pointer (some ⟨b,0,none⟩),.slice (some ⟨wb,0,none⟩) nw wc] (w.drewN n) fun e w'=>e=.returned (.tuple #[])∧∃ bv' iv' ov',RefM w' b (.slice (some ⟨g,0,none⟩) L.length cap2) bv' iv' ov' m'∧P w' bv' iv' ov')(hz:m'.fin=3):
  qC 55 #[.pointer (some ⟨b,0,none⟩)] w fun e w'=>e=.returned (.bool false)∧∃ bv' iv' ov',RefM w' b (.slice (some ⟨g,0,none⟩) L.length cap2) bv' iv' ov' m'∧P w' bv' iv' ov':=by
 have d:=h.cE;rw [hfin] at d;have c:=h.cL;have a:=h.cAt;rw [hat] at a;have hk0:(0:Int)≤(k:Int):=by omega
 have hk1:(k:Int)<(L.length:Int):=by omega
 have hk2:k*2≤600:=by omega
 have j:∀ W,LinesIn W g L→qC 88 #[.slice (some ⟨g,0,none⟩) L.length cap2,.int .i64 ((k:Int)+1)] W fun e w'=>e=.returned (.int .i64 next)∧w'=W:=fun W hW=>by
  have:=zdn L g cap2 (k+1) W hW (by omega) (by omega);rw [hnx] at this;simpa using this
 clear hnx;go_enter Tryz.func55,Tryz.ntmps55;go_wp2_with fail
 go_quiet(fail)
 replace h:=h.drewN nq;replace hL:=hL.drewN nq;have o:Hid (∀ n,w.drewN (nq+n)=(w.drewN nq).drewN n):=fun n=>by rw [World.drewN_drewN]
 replace hmv:=fun n=>hmv (nq+n)
 replace hdo:=fun n=>hdo (nq+n)
 simp only [o.out] at hmv hdo;clear d c a hwd o;generalize w.drewN nq=w1 at h hL hmv hdo ⊢;have c:=h.cL;have a:=h.cAt;rw [hat] at a;go_wp2_with fail
 go_quiet(first|(go_at_call 88;exact Calls.quiet_of_same (j _ (hL.drewN _))))
 replace hmv:=hmv nq;replace hdo:=hdo nq;clear c a hL j;generalize w1.drewN nq=w2 at hmv hdo ⊢;go_wp2_with(first|(go_at_call 89;refine hmv.mono ?_;rintro e wx ⟨rfl,f⟩;have i:=f.symm;subst i)|(go_at_call 90;refine hdo.mono ?_;rintro e w3 ⟨rfl,bv',iv',ov',l,p⟩;have q:=l.cE;rw [hz] at q))
 go_ret;exact⟨rfl,bv',iv',ov',l,p⟩
theorem LinesIn.below{w w':World}{g:Nat}{L:List Said}(h:LinesIn w g L)(hb:qB w w'):LinesIn w' g L:=by
 have c:∀ p u,w.cell? p=some u→w'.cell? p=some u:=fun p u hp=>(hb.cell (World.block_lt_of_cell? w p hp)).trans hp;refine⟨fun i hi=>c _ _ (h.kind i hi),fun i hi hp=>?_,h.wf⟩;obtain⟨b,k,a,d⟩:=h.words i hi hp;exact⟨b,k,c _ _ a,fun j hj=>c _ _ (d j hj)⟩
structure RefAt(w:World)(b g cap2:Nat)(L:List Said)(m:Mc)(bv iv ov:Value):Prop where
 mem:RefM w b (.slice (some ⟨g,0,none⟩) L.length cap2) bv iv ov m
 backs:w.ownsRow (b+1) 3 1 bv m.backs.length (i64s m.backs)
 out:w.ownsRow (b+1) 2 1 ov m.out.length (i64s m.out)
 inp:SlB w b iv m.inp
theorem zbb{w:World}{b:Nat}{e:TypeId}{size n:Nat}{v:Value}{xs:List Value}(h:w.ownsRow (b+1) e size v n xs):v.ownBlock≠some b:=fun hb=>by have:=(h.lt b hb).1;omega
theorem zdf{w w':World}{b:Nat}(hb:b<w.heap.size)(hg:w.grownBy w' (some b)):Below b w w':=(Below.refl b w).grown hg (by omega) (fun j hj=>by cases hj;exact Nat.le_refl _)
theorem RefAt.same{w w':World}{b g cap2:Nat}{L:List Said}{m m2:Mc}{bv iv ov:Value}(h:RefAt w b g cap2 L m bv iv ov)(hM:RefM w' b (.slice (some ⟨g,0,none⟩) L.length cap2) bv iv ov m2)(hg:w.grownBy w' (some b))(e1:m2.backs=m.backs)(e2:m2.out=m.out)(e3:m2.inp=m.inp):
  RefAt w' b g cap2 L m2 bv iv ov∧Below b w w':=by
 have a:=zdf h.mem.lt hg;refine⟨⟨hM,?_,?_,?_⟩,a⟩
 ·rw [e1];exact h.backs.kept hg (.inr (zbb h.backs))
 ·rw [e2];exact h.out.kept hg (.inr (zbb h.out))
 ·rw [e3];exact h.inp.below a
def zbm(w:World)(b g cap2:Nat)(L:List Said)(m2:Mc):Ending→World→Prop:=fun e w' =>
 e=.returned (.bool (decide (¬(m2.fin=3∨m2.fin=4))))∧∃ bv iv ov,RefAt w' b g cap2 L m2 bv iv ov∧Below b w w'
structure RStep(w:World)(b wb wc g cap2 k:Nat)(L:List Said)(m:Mc)(bv iv ov:Value)(l:List ByteArray)(next:Int):Prop where
 ref:RefAt w b g cap2 L m bv iv ov
 fin:m.fin=0
 at_:m.at'=(k:Int)
 lt:k<L.length
 few:L.length≤300
 lines:LinesIn w g L
 low:∀ W,Below b w W→LinesIn W g L
 wd:w.cell? ⟨g,k*2+1,none⟩=some (.slice (some ⟨wb,0,none⟩) l.length wc)
 words:WdIn w wb l
 apart:¬wb=b
 sizes:∀ x∈l,x.size≤1048576
 next_:zad L (k+1)=next
 st0:0≤m.steps
 st1:m.steps≤100000
theorem WdIn.drewN{w:World}{wb:Nat}{l:List ByteArray}(h:WdIn w wb l)(n:Nat):WdIn (w.drewN n) wb l:=h
theorem RStep.does{w:World}{b wb wc g cap2 k:Nat}{L:List Said}{m m1:Mc}{bv iv ov:Value}{l:List ByteArray}{next:Int}(S:RStep w b wb wc g cap2 k L m bv iv ov l next)
  (hmv:∀ n,qC 89 #[.pointer (some ⟨b,0,none⟩),.slice (some ⟨wb,0,none⟩) l.length wc,.int .i64 next] (w.drewN n) fun e w'=>e=.returned (.tuple #[.int .i64 next,.bool false])∧w'=w.drewN n)
  (hdo:∀ n,qC 90 #[.pointer (some ⟨b,0,none⟩),.slice (some ⟨wb,0,none⟩) l.length wc] (w.drewN n) fun e w'=>e=.returned (.tuple #[])∧RefM w' b (.slice (some ⟨g,0,none⟩) L.length cap2) bv iv ov m1∧(w.drewN n).grownBy w' (some b))
  (hf:m1.fin=0) (hs:m1.steps=m.steps) (e1:m1.backs=m.backs) (e2:m1.out=m.out) (e3:m1.inp=m.inp) :
  qC 55 #[.pointer (some ⟨b,0,none⟩)] w (zbm w b g cap2 L (m1.goes next)):=by
 have S0:=S.st0;have S1:=S.st1;refine(zii w b wb wc l.length g cap2 k bv iv ov L m m1 S.ref.mem S.fin S.at_ S.lt S.few S.lines S.wd next S.next_ (fun h d c a=>w.grownBy h (some b)∧d=bv∧c=iv∧a=ov) 0 hmv
  (fun n=>(hdo n).mono ?_) hf rfl rfl (by rw [hs];omega)).mono ?_
 ·rintro e w' ⟨j,o,s⟩;exact⟨j,bv,iv,ov,o,zaB s,rfl,rfl,rfl⟩
 ·rintro e w' ⟨rfl,h,d,c,a,r,⟨p,rfl,rfl,rfl⟩,f⟩;obtain⟨i,q⟩:=S.ref.same r (zae p f) e1 e2 e3;refine⟨?_,_,_,_,i,q⟩;show _=Ending.returned (.bool (decide (¬(m1.fin=3∨m1.fin=4))));rw [hf];rfl
theorem RStep.stuck{w:World}{b wb wc g cap2 k:Nat}{L:List Said}{m m1:Mc}{bv iv ov:Value}{l:List ByteArray}{next:Int}(S:RStep w b wb wc g cap2 k L m bv iv ov l next)
  (hmv:∀ n,qC 89 #[.pointer (some ⟨b,0,none⟩),.slice (some ⟨wb,0,none⟩) l.length wc,.int .i64 next] (w.drewN n) fun e w'=>e=.returned (.tuple #[.int .i64 next,.bool false])∧w'=w.drewN n)
  (hdo:∀ n,qC 90 #[.pointer (some ⟨b,0,none⟩),.slice (some ⟨wb,0,none⟩) l.length wc] (w.drewN n) fun e w'=>e=.returned (.tuple #[])∧RefM w' b (.slice (some ⟨g,0,none⟩) L.length cap2) bv iv ov m1∧(w.drewN n).grownBy w' (some b))
  (hf:m1.fin=3) (e1:m1.backs=m.backs) (e2:m1.out=m.out) (e3:m1.inp=m.inp) :
  qC 55 #[.pointer (some ⟨b,0,none⟩)] w (zbm w b g cap2 L m1):=by
 refine(zqw w b wb wc l.length g cap2 k bv iv ov L m m1 S.ref.mem S.fin S.at_ S.lt S.few S.lines S.wd next S.next_ (fun w1 d c a=>w.grownBy w1 (some b)∧d=bv∧c=iv∧a=ov) hmv
  (fun n=>(hdo n).mono ?_) hf).mono ?_
 ·rintro e w' ⟨h,i,q⟩;exact⟨h,bv,iv,ov,i,zaB q,rfl,rfl,rfl⟩
 ·rintro e w' ⟨rfl,d,c,a,p,j,rfl,rfl,rfl⟩;obtain⟨f,o⟩:=S.ref.same p j e1 e2 e3;refine⟨?_,_,_,_,f,o⟩;rw [hf];rfl
theorem RStep.moves{w:World}{b wb wc g cap2 k:Nat}{L:List Said}{m m1:Mc}{bv iv ov:Value}{l:List ByteArray}{next:Int}(S:RStep w b wb wc g cap2 k L m bv iv ov l next)(to z:Int)
  (hmv:∀ n,qC 89 #[.pointer (some ⟨b,0,none⟩),.slice (some ⟨wb,0,none⟩) l.length wc,.int .i64 next] (w.drewN n) fun e w'=>e=.returned (.tuple #[.int .i64 to,.bool true])∧RefM w' b (.slice (some ⟨g,0,none⟩) L.length cap2) bv iv ov m1∧(w.drewN n).grownBy w' (some b))
  (hf:m1.fin=z) (hz:z=0∨z=1∨z=2) (hs:m1.steps=m.steps) (e1:m1.backs=m.backs) (e2:m1.out=m.out) (e3:m1.inp=m.inp) :
  qC 55 #[.pointer (some ⟨b,0,none⟩)] w (zbm w b g cap2 L (m1.goes to)):=by
 have S0:=S.st0;have S1:=S.st1;refine(zgA w b wb wc l.length g cap2 k bv iv ov L m m1 S.ref.mem S.fin S.at_ S.lt S.few S.lines S.wd next S.next_ (fun i f d c=>w.grownBy i (some b)∧f=bv∧d=iv∧c=ov) to z
  (fun n=>(hmv n).mono ?_) hf (by rcases hz with rfl|rfl|rfl <;> rfl) (by rcases hz with rfl|rfl|rfl <;> rfl) (by rw [hs];omega)).mono ?_
 ·rintro e w' ⟨o,p,t⟩;exact⟨o,bv,iv,ov,p,zaB t,rfl,rfl,rfl⟩
 ·rintro e w' ⟨rfl,i,f,d,c,s,⟨q,rfl,rfl,rfl⟩,h⟩;obtain⟨j,r⟩:=S.ref.same s (zae q h) e1 e2 e3;refine⟨?_,_,_,_,j,r⟩;show _=Ending.returned (.bool (decide (¬(m1.fin=3∨m1.fin=4))));rw [hf];rcases hz with rfl|rfl|rfl <;> rfl
end
section
section
variable {P:Program} {ops:Array Oper} {md:Region.Mode} {C:World→Prop}
def zhY(P:Program)(md:Region.Mode)(ops:Array Oper)(C:World→Prop)(n:Nat)(L:Array Bool→Act→Prop):Nat→Array Bool→Act→Prop
 | 0,listed,a=>L listed a
 | f+1,listed,a=>¬Region.ready md ops listed=[]∧∀ i∈Region.ready md ops listed,i<n∧qOp P ops C i (zhY P md ops C n L f (listed.setIfInBounds i true)) a
theorem zhZ{n g:Nat}{L:Array Bool→Act→Prop}{Q:Exit→Act→World→Prop}(hL:∀ listed a w,C w→L listed a→wpAny P md ops Q g listed a w)(f:Nat):
  ∀(listed:Array Bool) (a:Act) (w:World),C w→zhY P md ops C n L f listed a→wpAny P md ops Q (f+g) listed a w:=by
 induction f with
 | zero=>intro listed a w b h;rw [Nat.zero_add];exact hL _ _ _ b h
 | succ f ih =>
  intro listed a w b h;rw [show f+1+g=(f+g)+1 by omega];exact⟨fun h0=>absurd h0 h.1,fun i hi=>wpOp_of_qOp b (fun a' w' hw' h'=>ih _ a' w' hw' h') (h.2 i hi).2⟩
theorem zj1{n i:Nat}{listed:Array Bool}(hs:Region.sinkB md ops n=true)(hc:Region.chainB md ops n=true)(hn:n<ops.size)(hin:i<n)(inv:HeadInv md ops n listed)(hr:i∈Region.ready md ops listed){j:Nat}(hj:j∈Region.ready md ops listed):j<n:=by
 by_cases h:j<n
 ·exact h
 ·exact absurd hj (tail_waits hs hc hn inv _ i rfl hin (mem_ready.1 hr).1 j (by omega))
theorem zqj{n i:Nat}{oi:Oper}{v:Value}{L:Array Bool→Act→Prop}(hi:ops[i]?=some oi)(hsel:∀(j:Nat) (o:Oper) cs b,ops[j]?=some o→o.op≠.select cs b)
  (hs:Region.sinkB md ops n=true) (hc:Region.chainB md ops n=true) (hn:n<ops.size) (hin:i<n)
  (hdone:∀ listed a,L listed a→∀ j∈Region.ready md ops listed,n≤j) (f:Nat) :
  ∀(listed:Array Bool) (a:Act),HeadInv md ops n listed →
   (∀ j oj,ops[j]?=some oj→j≠i→listed.getD j true=false→(∀ e∈oj.after,Region.binds md e=true→e.on≠i)→oi.apart ops oj=true) →
   i∈Region.ready md ops listed→YieldsIn P ops C oi v a →
   zhY P md ops C n L f (listed.setIfInBounds i true) (a.put oi.dst v)→zhY P md ops C n L (f+1) listed a:=by
 induction f with
 | zero =>
  intro listed a l _ m u H;refine⟨fun h=>(by rw [h] at m;cases m),fun j hj=>?_⟩;have c:=zj1 hs hc hn hin l m hj;by_cases e:j=i
  ·exact⟨c,by rw [e];exact u.qOp hi H⟩
  ·have:=hdone _ _ H j (ready_mono hj e);omega
 | succ f ih =>
  intro listed a l g m u H;refine⟨fun h=>(by rw [h] at m;cases m),fun j hj=>?_⟩;have c:=zj1 hs hc hn hin l m hj;by_cases e:j=i
  ·exact⟨c,by rw [e];exact u.qOp hi H⟩
  ·obtain⟨p,oj,q,s⟩:=mem_ready.1 hj;have w:=(mem_ready.1 m).1;have r:∀ d∈oj.after,Region.binds md d=true→d.on≠i:=fun d hd hb heq=>by
    have x:=s d hd hb;rw [heq,getD_both w] at x;cases x
   have y:=qOp_put q (g j oj q e p r) (fun cs b=>hsel i oi cs b hi) (fun cs b=>hsel j oj cs b q) u (H.2 j (ready_mono hj e)).2;refine⟨c,qOp_mono (fun a' h3=>ih (listed.setIfInBounds j true) a' (l.set hj c) (fun k ok hk hki hku hno=>?_) (ready_mono m (Ne.symm e)) h3.1 (by rw [Array.setIfInBounds_comm _ _ e];exact h3.2)) y⟩;refine g k ok hk hki ?_ hno;by_cases t:j=k
   ·rw [←t];exact p
   ·rw [getD_set_ne true t] at hku;exact hku
theorem zoC{n g:Nat}{R:Act→Prop}(hsel:Region.noSelect ops=true)(hs:Region.sinkB md ops n=true)(hc:Region.chainB md ops n=true)(hn:n<ops.size)(l:List Oper):
  ∀(k:Nat) (listed:Array Bool) (a:Act),(∀ j,j<l.length→l[j]?=ops[k+j]?)→k+l.length=n→HeadInv md ops n listed →
  Region.lexHead md ops g l.length k listed=true→wpQuiet P ops C R l a →
  zhY P md ops C n (fun listed' a'=>Region.seqB md ops g n listed'=true∧R a') l.length listed a:=by
 induction l with
 | nil =>
  intro k listed a _ d _ b h;obtain rfl:k=n:=by simpa using d
  exact⟨by simpa [Region.lexHead] using b,h⟩
 | cons o l ih =>
  intro k listed a i d c b h;have e:ops[k]?=some o:=by simpa using (i 0 (by simp)).symm
  simp only [List.length_cons,Region.lexHead,Bool.and_eq_true] at b d;have f:k∈Region.ready md ops listed:=by simpa using b.1.1
  have m:qOp P ops C k (wpQuiet P ops C R l) a:=by unfold qOp;simp only [e];exact h
  obtain⟨v,q,p⟩:=yieldsIn_of_qOp e m;refine zqj e (Region.noSelect_spec hsel) hs hc hn (by omega) (fun _ _ hL=>seqB_ready hL.1) l.length listed a c (Region.free_spec e b.1.2) f q ?_;refine ih (k+1) _ _ (fun j hj=>?_) (by omega) (c.set f (by omega)) b.2 p;have:=i (j+1) (by simp;omega);simpa [Nat.add_assoc,Nat.add_comm 1 j] using this
theorem zao{id:Nat}{Q:Exit→Act→World→Prop}{a:Act}{w:World}{l:List Oper}(n:Nat)(hm:P.follows .mixedOrders=true)(hB:Region.lexTailB .any l.toArray n=true)
  (h:wpQuiet P l.toArray (fun w'=>∃ k,w'=w.drewN k) (fun a'=>∀ w',(∃ k,w'=w.drewN k)→wpList P l.toArray Q (l.drop n) a' w') (l.take n) a):(Code.region id l.toArray true).wp P Q a w:=by
 simp only [Region.lexTailB,Bool.and_eq_true,decide_eq_true_eq] at hB;obtain⟨⟨⟨⟨b,f⟩,m⟩,i⟩,c⟩:=hB;have hn':n<l.length:=by simpa using f
 have e:(l.take n).length=n:=by simp;omega
 have hdl:(l.drop n).length=l.toArray.size-n:=by simp
 have d:HeadInv .any l.toArray n (Array.replicate l.toArray.size false) :=
  ⟨by simp,fun j oj _ hl=>(by rw [getD_replicate_false] at hl;cases hl),fun t _ ht=>getD_in (by simpa using ht) (getD_replicate_false _ _)⟩
 have H:=zoC (md:=.any) (g:=l.toArray.size-n) b m i f (l.take n) 0 _ a (fun j hj=>by
  have:j<n:=by rw [e] at hj;exact hj
  simp [this]) (by simpa using e) d (by rw [e];exact c) h
 refine wp_region_any hm ?_;have:=zhZ (Q:=Q) (g:=l.toArray.size-n) (fun listed a' w' hw' hL=>by
  have:=wpAny_of_seq (md:=.any) (Q':=Q) (l.drop n) n listed a' w' (fun j=>by simp [List.getElem?_drop]) (by rw [hdl];exact hL.1) (hL.2 w' hw');rwa [hdl] at this) _ _ _ _ ⟨1,rfl⟩ H
 rw [e,show n+(l.toArray.size-n)=l.toArray.size by omega] at this;exact this
end
end
section
open Go.RowKit Sp
structure MchM(w:World)(b:Nat)(bv iv ov:Value)(m:Mc):Prop where
 cR:∀ i,i<8→w.cell? ⟨b,i,none⟩=some (.int .i64 (m.regs i))
 cC:∀ i,i<16→w.cell? ⟨b,8+i,none⟩=some (.int .i64 (m.cells i))
 cI:w.cell? ⟨b,24,none⟩=some iv
 cO:w.cell? ⟨b,25,none⟩=some ov
 cN:w.cell? ⟨b,26,none⟩=some (.int .i64 m.at')
 cB:w.cell? ⟨b,27,none⟩=some bv
 cS:w.cell? ⟨b,28,none⟩=some (.int .i64 m.steps)
 cP:w.cell? ⟨b,29,none⟩=some (.int .i64 m.peak)
 cE:w.cell? ⟨b,30,none⟩=some (.int .i64 m.fin)
 fz:∀ o,w.frozen? ⟨b,o,none⟩=false
theorem MchM.setR{w:World}{b:Nat}{bv iv ov:Value}{m:Mc}(h:MchM w b bv iv ov m)(r:Nat)(hr:r<8)(x:Int):MchM (w.setCell ⟨b,r,none⟩ (.int .i64 x)) b bv iv ov { m with regs:=upd m.regs r x }:=by
 have e:=fun j=>zat w b (r) j (.int .i64 x) _ (h.cR r hr);exact⟨fun i hi=>by
  rw [e];by_cases a:i=r
  ·subst a;rw [if_pos rfl];show _=some (Value.int .i64 (upd _ _ _ _));rw [zeq]
  ·rw [if_neg (by omega)];show _=some (Value.int .i64 (upd _ _ _ _));rw [zd9 _ _ _ _ a];exact h.cR i hi,fun i hi=>by rw [e,if_neg (by omega)];exact h.cC i hi,by rw [e,if_neg (by omega)];exact h.cI,by rw [e,if_neg (by omega)];exact h.cO,by rw [e,if_neg (by omega)];exact h.cN,by rw [e,if_neg (by omega)];exact h.cB,by rw [e,if_neg (by omega)];exact h.cS,by rw [e,if_neg (by omega)];exact h.cP,by rw [e,if_neg (by omega)];exact h.cE,fun o=>zbP w b _ o _ (h.fz o)⟩
theorem MchM.setC{w:World}{b:Nat}{bv iv ov:Value}{m:Mc}(h:MchM w b bv iv ov m)(r:Nat)(hr:r<16)(x:Int):MchM (w.setCell ⟨b,8+r,none⟩ (.int .i64 x)) b bv iv ov { m with cells:=upd m.cells r x }:=by
 have e:=fun j=>zat w b (8+r) j (.int .i64 x) _ (h.cC r hr);exact⟨fun i hi=>by rw [e,if_neg (by omega)];exact h.cR i hi,fun i hi=>by
  rw [e];by_cases a:i=r
  ·subst a;rw [if_pos rfl];show _=some (Value.int .i64 (upd _ _ _ _));rw [zeq]
  ·rw [if_neg (by omega)];show _=some (Value.int .i64 (upd _ _ _ _));rw [zd9 _ _ _ _ a];exact h.cC i hi,by rw [e,if_neg (by omega)];exact h.cI,by rw [e,if_neg (by omega)];exact h.cO,by rw [e,if_neg (by omega)];exact h.cN,by rw [e,if_neg (by omega)];exact h.cB,by rw [e,if_neg (by omega)];exact h.cS,by rw [e,if_neg (by omega)];exact h.cP,by rw [e,if_neg (by omega)];exact h.cE,fun o=>zbP w b _ o _ (h.fz o)⟩
theorem MchM.setI{w:World}{b:Nat}{bv iv ov:Value}{m:Mc}(h:MchM w b bv iv ov m)(u:Value)(l:List Int):MchM (w.setCell ⟨b,24,none⟩ u) b bv u ov { m with inp:=l }:=by
 have e:=fun j=>zat w b (24) j u _ h.cI;exact⟨fun i hi=>by rw [e,if_neg (by omega)];exact h.cR i hi,fun i hi=>by rw [e,if_neg (by omega)];exact h.cC i hi,by rw [e,if_pos rfl],by rw [e,if_neg (by omega)];exact h.cO,by rw [e,if_neg (by omega)];exact h.cN,by rw [e,if_neg (by omega)];exact h.cB,by rw [e,if_neg (by omega)];exact h.cS,by rw [e,if_neg (by omega)];exact h.cP,by rw [e,if_neg (by omega)];exact h.cE,fun o=>zbP w b _ o _ (h.fz o)⟩
theorem MchM.setO{w:World}{b:Nat}{bv iv ov:Value}{m:Mc}(h:MchM w b bv iv ov m)(u:Value)(l:List Int):MchM (w.setCell ⟨b,25,none⟩ u) b bv iv u { m with out:=l }:=by
 have e:=fun j=>zat w b (25) j u _ h.cO;exact⟨fun i hi=>by rw [e,if_neg (by omega)];exact h.cR i hi,fun i hi=>by rw [e,if_neg (by omega)];exact h.cC i hi,by rw [e,if_neg (by omega)];exact h.cI,by rw [e,if_pos rfl],by rw [e,if_neg (by omega)];exact h.cN,by rw [e,if_neg (by omega)];exact h.cB,by rw [e,if_neg (by omega)];exact h.cS,by rw [e,if_neg (by omega)];exact h.cP,by rw [e,if_neg (by omega)];exact h.cE,fun o=>zbP w b _ o _ (h.fz o)⟩
theorem MchM.setN{w:World}{b:Nat}{bv iv ov:Value}{m:Mc}(h:MchM w b bv iv ov m)(x:Int):MchM (w.setCell ⟨b,26,none⟩ (.int .i64 x)) b bv iv ov { m with at':=x }:=by
 have e:=fun j=>zat w b (26) j (.int .i64 x) _ h.cN;exact⟨fun i hi=>by rw [e,if_neg (by omega)];exact h.cR i hi,fun i hi=>by rw [e,if_neg (by omega)];exact h.cC i hi,by rw [e,if_neg (by omega)];exact h.cI,by rw [e,if_neg (by omega)];exact h.cO,by rw [e,if_pos rfl],by rw [e,if_neg (by omega)];exact h.cB,by rw [e,if_neg (by omega)];exact h.cS,by rw [e,if_neg (by omega)];exact h.cP,by rw [e,if_neg (by omega)];exact h.cE,fun o=>zbP w b _ o _ (h.fz o)⟩
theorem MchM.setB{w:World}{b:Nat}{bv iv ov:Value}{m:Mc}(h:MchM w b bv iv ov m)(u:Value)(l:List Int):MchM (w.setCell ⟨b,27,none⟩ u) b u iv ov { m with backs:=l }:=by
 have e:=fun j=>zat w b (27) j u _ h.cB;exact⟨fun i hi=>by rw [e,if_neg (by omega)];exact h.cR i hi,fun i hi=>by rw [e,if_neg (by omega)];exact h.cC i hi,by rw [e,if_neg (by omega)];exact h.cI,by rw [e,if_neg (by omega)];exact h.cO,by rw [e,if_neg (by omega)];exact h.cN,by rw [e,if_pos rfl],by rw [e,if_neg (by omega)];exact h.cS,by rw [e,if_neg (by omega)];exact h.cP,by rw [e,if_neg (by omega)];exact h.cE,fun o=>zbP w b _ o _ (h.fz o)⟩
theorem MchM.setS{w:World}{b:Nat}{bv iv ov:Value}{m:Mc}(h:MchM w b bv iv ov m)(x:Int):MchM (w.setCell ⟨b,28,none⟩ (.int .i64 x)) b bv iv ov { m with steps:=x }:=by
 have e:=fun j=>zat w b (28) j (.int .i64 x) _ h.cS;exact⟨fun i hi=>by rw [e,if_neg (by omega)];exact h.cR i hi,fun i hi=>by rw [e,if_neg (by omega)];exact h.cC i hi,by rw [e,if_neg (by omega)];exact h.cI,by rw [e,if_neg (by omega)];exact h.cO,by rw [e,if_neg (by omega)];exact h.cN,by rw [e,if_neg (by omega)];exact h.cB,by rw [e,if_pos rfl],by rw [e,if_neg (by omega)];exact h.cP,by rw [e,if_neg (by omega)];exact h.cE,fun o=>zbP w b _ o _ (h.fz o)⟩
theorem MchM.setP{w:World}{b:Nat}{bv iv ov:Value}{m:Mc}(h:MchM w b bv iv ov m)(x:Int):MchM (w.setCell ⟨b,29,none⟩ (.int .i64 x)) b bv iv ov { m with peak:=x }:=by
 have e:=fun j=>zat w b (29) j (.int .i64 x) _ h.cP;exact⟨fun i hi=>by rw [e,if_neg (by omega)];exact h.cR i hi,fun i hi=>by rw [e,if_neg (by omega)];exact h.cC i hi,by rw [e,if_neg (by omega)];exact h.cI,by rw [e,if_neg (by omega)];exact h.cO,by rw [e,if_neg (by omega)];exact h.cN,by rw [e,if_neg (by omega)];exact h.cB,by rw [e,if_neg (by omega)];exact h.cS,by rw [e,if_pos rfl],by rw [e,if_neg (by omega)];exact h.cE,fun o=>zbP w b _ o _ (h.fz o)⟩
theorem MchM.setE{w:World}{b:Nat}{bv iv ov:Value}{m:Mc}(h:MchM w b bv iv ov m)(x:Int):MchM (w.setCell ⟨b,30,none⟩ (.int .i64 x)) b bv iv ov { m with fin:=x }:=by
 have e:=fun j=>zat w b (30) j (.int .i64 x) _ h.cE;exact⟨fun i hi=>by rw [e,if_neg (by omega)];exact h.cR i hi,fun i hi=>by rw [e,if_neg (by omega)];exact h.cC i hi,by rw [e,if_neg (by omega)];exact h.cI,by rw [e,if_neg (by omega)];exact h.cO,by rw [e,if_neg (by omega)];exact h.cN,by rw [e,if_neg (by omega)];exact h.cB,by rw [e,if_neg (by omega)];exact h.cS,by rw [e,if_neg (by omega)];exact h.cP,by rw [e,if_pos rfl],fun o=>zbP w b _ o _ (h.fz o)⟩
theorem MchM.of_block{w w':World}{b:Nat}{bv iv ov:Value}{m:Mc}(h:MchM w b bv iv ov m)(e:w'.heap[b]?=w.heap[b]?):MchM w' b bv iv ov m:=by
 have z:∀ j,w'.cell? ⟨b,j,none⟩=w.cell? ⟨b,j,none⟩:=fun j=>World.cell?_of_block (w:=w) e;have f:∀ j,w'.frozen? ⟨b,j,none⟩=w.frozen? ⟨b,j,none⟩:=fun j=>World.frozen?_of_block (w:=w) e;exact⟨fun i hi=>by rw [z];exact h.cR i hi,fun i hi=>by rw [z];exact h.cC i hi,by rw [z];exact h.cI,by rw [z];exact h.cO,by rw [z];exact h.cN,by rw [z];exact h.cB,by rw [z];exact h.cS,by rw [z];exact h.cP,by rw [z];exact h.cE,fun o=>by rw [f];exact h.fz o⟩
theorem MchM.lt{w:World}{b:Nat}{bv iv ov:Value}{m:Mc}(h:MchM w b bv iv ov m):b<w.heap.size:=by have:=World.block_lt_of_cell? w _ h.cI;simpa using this
theorem MchM.drew{w:World}{b:Nat}{bv iv ov:Value}{m:Mc}(h:MchM w b bv iv ov m):MchM w.drew b bv iv ov m:=h.of_block rfl
theorem MchM.drewN{w:World}{b:Nat}{bv iv ov:Value}{m:Mc}(h:MchM w b bv iv ov m)(n:Nat):MchM (w.drewN n) b bv iv ov m:=h.of_block rfl
theorem MchM.frames{w:World}{b:Nat}{bv iv ov:Value}{m:Mc}(h:MchM w b bv iv ov m)(x:Int):MchM w b bv iv ov { m with frames:=x }:=⟨h.cR,h.cC,h.cI,h.cO,h.cN,h.cB,h.cS,h.cP,h.cE,h.fz⟩
theorem zs7(w:World)(b:Nat)(bv iv ov:Value)(m:Mc)(h:MchM w b bv iv ov m):qC 83 #[.pointer (some ⟨b,0,none⟩)] w fun e w'=>e=.returned (.bool (m.fin == 0))∧w'=w:=by
 have hc:=h.cE;go_enter Tryz.func83,Tryz.ntmps83;go_wp2;go_ret;exact⟨rfl,rfl⟩
theorem zqg(w:World)(b:Nat)(bv iv ov:Value)(m:Mc)(h:MchM w b bv iv ov m):qC 84 #[.pointer (some ⟨b,0,none⟩)] w fun e w'=>e=.returned (.int .i64 m.steps)∧w'=w:=by
 have hc:=h.cS;go_enter Tryz.func84,Tryz.ntmps84;go_wp2;go_ret;exact⟨rfl,rfl⟩
theorem zhW(w:World)(b:Nat)(bv iv ov:Value)(m:Mc)(h:MchM w b bv iv ov m):qC 85 #[.pointer (some ⟨b,0,none⟩)] w fun e w'=>e=.returned (.int .i64 m.at')∧w'=w:=by
 have hc:=h.cN;go_enter Tryz.func85,Tryz.ntmps85;go_wp2;go_ret;exact⟨rfl,rfl⟩
theorem zes(w:World)(b:Nat)(bv iv ov:Value)(m:Mc)(h:MchM w b bv iv ov m):qC 87 #[.pointer (some ⟨b,0,none⟩)] w fun e w'=>e=.returned (.bool (decide (m.fin=1∨m.fin=2)))∧w'=w:=by
 have a:=h.cE;generalize m.fin=x at a;cases h1:(x == 1) with
 | true =>
  obtain rfl:x=1:=by simpa using h1
  go_enter Tryz.func87,Tryz.ntmps87;go_wp2;go_ret;exact⟨rfl,rfl⟩
 | false =>
  cases h2:(x == 2) with
  | true =>
   obtain rfl:x=2:=by simpa using h2
   go_enter Tryz.func87,Tryz.ntmps87;go_wp2;go_ret;exact⟨rfl,rfl⟩
  | false =>
   have h3:decide (x=1∨x=2)=false:=by simp at h1 h2 ⊢;exact⟨h1,h2⟩
   rw [h3];go_enter Tryz.func87,Tryz.ntmps87;go_wp2;go_ret;exact⟨rfl,rfl⟩
theorem zfd(w:World)(b n c:Nat)(ao:Option Addr)(iv ov:Value)(m:Mc)(h:MchM w b (.slice ao n c) iv ov m)(hn:n≤16)(h2:(m.fin == 2)=false):qC 110 #[.pointer (some ⟨b,0,none⟩)] w fun e w'=>e=.returned (.int .i64 ((n:Int)+1))∧w'=w:=by
 have hc:=h.cE;have hb:=h.cB;go_enter Tryz.func110,Tryz.ntmps110;go_wp2;go_ret;exact⟨rfl,rfl⟩
theorem znl(w:World)(b:Nat)(bv iv ov:Value)(m:Mc)(h:MchM w b bv iv ov m)(h2:m.fin=2):qC 110 #[.pointer (some ⟨b,0,none⟩)] w fun e w'=>e=.returned (.int .i64 0)∧w'=w:=by
 have a:=h.cE;rw [h2] at a;go_enter Tryz.func110,Tryz.ntmps110;go_wp2;go_ret;exact⟨rfl,rfl⟩
theorem zeG(w:World)(b:Nat)(bv iv ov:Value)(m:Mc)(to:Int)(h:MchM w b bv iv ov m)(h0:0≤m.steps)(h1:m.steps≤100000):
  qC 228 #[.pointer (some ⟨b,0,none⟩),.int .i64 to] w fun e w'=>e=.returned (.tuple #[])∧MchM w' b bv iv ov (m.goes to)∧w.grownBy w' (some b):=by
 have hcs:=h.cS;have hcn:=h.cN;have hfs:=h.fz 28;have hfn:=h.fz 26;go_enter Tryz.func228,Tryz.ntmps228;go_wp2
 go_end0
 exact⟨rfl,(h.setS (m.steps+1)).setN to,zae (zac (Below.refl _ _)) (zac (Below.refl _ _))⟩
theorem zca(w:World)(b:Nat)(bv iv ov:Value)(m:Mc)(h:MchM w b bv iv ov m)(h0:0≤m.steps)(h1:m.steps≤100000)(ha:0≤m.at')(hb:m.at'≤100000):
  qC 225 #[.pointer (some ⟨b,0,none⟩)] w fun e w'=>e=.returned (.tuple #[])∧MchM w' b bv iv ov (m.goes (m.at'+1))∧w.grownBy w' (some b):=by
 have hcn:=h.cN;have c:=zeG w b bv iv ov m (m.at'+1) h h0 h1;go_enter Tryz.func225,Tryz.ntmps225;go_wp2_with(first|(go_at_call 228;refine c.mono ?_;rintro e w2 ⟨rfl,d,a⟩))
 go_end0
 exact⟨rfl,d,a⟩
theorem zhX(w:World)(b:Nat)(bv iv ov:Value)(m:Mc)(x:Int)(h:MchM w b bv iv ov m)(h0:0≤m.steps)(h1:m.steps≤100000):
  qC 286 #[.pointer (some ⟨b,0,none⟩),.int .i64 x] w fun e w'=>e=.returned (.tuple #[])∧MchM w' b bv iv ov { m with steps:=m.steps+1,fin:=x }∧w.grownBy w' (some b):=by
 have hcs:=h.cS;have hce:=h.cE;have hfs:=h.fz 28;have hfe:=h.fz 30;go_enter Tryz.func286,Tryz.ntmps286;go_wp2
 go_end0
 exact⟨rfl,(h.setS (m.steps+1)).setE x,zae (zac (Below.refl _ _)) (zac (Below.refl _ _))⟩
theorem zs8(w:World)(b:Nat)(bv iv ov:Value)(m:Mc)(h:MchM w b bv iv ov m)(h0:0≤m.steps)(h1:m.steps≤100000):
  qC 290 #[.pointer (some ⟨b,0,none⟩)] w fun e w'=>e=.returned (.tuple #[])∧MchM w' b bv iv ov { m with steps:=m.steps+1,fin:=1 }∧w.grownBy w' (some b):=by
 have c:=zhX w b bv iv ov m 1 h h0 h1;go_enter Tryz.func290,Tryz.ntmps290;go_wp2_with(first|(go_at_call 286;refine c.mono ?_;rintro e w2 ⟨rfl,d,a⟩))
 go_end0
 exact⟨rfl,d,a⟩
theorem zoB(w:World)(b n:Nat)(bv iv ov:Value)(m:Mc)(_h:MchM w b bv iv ov m)(hn:n<16):
  qC 253 #[.pointer (some ⟨b,0,none⟩),.int .i64 (n:Int)] w fun e w'=>e=.returned (.pointer (some ⟨b,8+n,none⟩))∧w'=w:=by
 have hn0:(0:Int)≤(n:Int):=by omega
 have hn1:(n:Int)<16:=by omega
 go_enter Tryz.func253,Tryz.ntmps253;go_wp2;go_ret;exact⟨rfl,rfl⟩
theorem zlk(w:World)(b:Nat)(bv iv ov:Value)(m:Mc)(x:Int)(h:MchM w b bv iv ov m)(hn:x<0∨15<x):
  qC 253 #[.pointer (some ⟨b,0,none⟩),.int .i64 x] w fun e w'=>e=.returned (.pointer none)∧MchM w' b bv iv ov { m with fin:=3 }∧w.grownBy w' (some b):=by
 have hce:=h.cE;have hfe:=h.fz 30;by_cases hx:x<0
 ·go_enter Tryz.func253,Tryz.ntmps253;go_wp2;go_ret;exact⟨rfl,h.setE 3,zac (Below.refl _ _)⟩
 ·have hx2:16≤x:=by omega
  go_enter Tryz.func253,Tryz.ntmps253;go_wp2;go_ret;exact⟨rfl,h.setE 3,zac (Below.refl _ _)⟩
theorem zqh(w:World)(b c:Nat)(bv ov:Value)(ao:Option Addr)(m:Mc)(h:MchM w b bv (.slice ao 0 c) ov m):
  qC 261 #[.pointer (some ⟨b,0,none⟩)] w fun e w'=>e=.returned (.int .i64 0)∧w'=w:=by
 have hci:=h.cI;go_enter Tryz.func261,Tryz.ntmps261;go_wp2;go_ret;exact⟨rfl,rfl⟩
theorem zqi(w:World)(b c g o n:Nat)(bv ov:Value)(m:Mc)(x:Int)(l:List Int)(h:MchM w b bv (.slice (some ⟨g,o,none⟩) (n+1) c) ov m)(hx:w.cell? ⟨g,o,none⟩=some (.int .i64 x))(hn:n≤9223372036854775806)(hc:n+1≤c):
  qC 261 #[.pointer (some ⟨b,0,none⟩)] w fun e w'=>e=.returned (.int .i64 x)∧(∃ o',MchM w' b bv (.slice (some ⟨g,o',none⟩) n (c-1)) ov { m with inp:=l }∧(n=0∨o'=o+1))∧w.grownBy w' (some b):=by
 have hci:=h.cI;have hfi:=h.fz 24;have a:=h;have hz:(((n:Int)+1) == 0)=false:=by simp;omega
 go_enter Tryz.func261,Tryz.ntmps261;go_wp2;all_goals go_ret
 ·exact⟨rfl,⟨o,a.setI (.slice (some ⟨g,o,none⟩) n 0) l,.inl (by omega)⟩,zac (Below.refl _ _)⟩
 ·exact⟨rfl,⟨o+1,a.setI (.slice (some ⟨g,o+1,none⟩) n (c-1)) l,.inr rfl⟩,zac (Below.refl _ _)⟩
end
end Go.Proofs.YtfpgjkbjbbgciaaGreatDoor
