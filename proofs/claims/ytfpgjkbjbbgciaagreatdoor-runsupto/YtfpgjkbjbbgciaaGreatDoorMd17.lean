import Derived.Test.YtfpgjkbjbbgciaaGreatDoorMd15
set_option maxRecDepth 100000
set_option maxHeartbeats 8000000
namespace Go.Proofs.YtfpgjkbjbbgciaaGreatDoor
open Go.RowKit Sp
theorem zgw(w:World)(b wb wc nw g cap2 k:Nat)(bv iv ov:Value)(L:List Said)(m m':Mc)(h:RefM w b (.slice (some ⟨g,0,none⟩) L.length cap2) bv iv ov m)(hfin:m.fin=0)(hat:m.at'=(k:Int))(hk:k<L.length)(hn:L.length≤300)(hL:LinesIn w g L)(hwd:w.cell? ⟨g,k*2+1,none⟩=some (.slice (some ⟨wb,0,none⟩) nw wc))(next:Int)(hnx:zad L (k+1)=next)(P:World→Value→Value→Value→Prop)(to z:Int)(hmv:∀ n,Calls Tryz.prog 89 #[.pointer (some ⟨b,0,none⟩),.slice (some ⟨wb,0,none⟩) nw wc,.int .i64 next] (w.drewN n) fun e w'=>e=.returned (.tuple #[.int .i64 to,.bool true])∧∃ bv' iv' ov',RefM w' b (.slice (some ⟨g,0,none⟩) L.length cap2) bv' iv' ov' m'∧P w' bv' iv' ov')(hz:m'.fin=z)(hz3:(z == 3)=false)(hz4:(z == 4)=false)(hst:0≤m'.steps∧m'.steps≤1000000):
  Calls Tryz.prog 55 #[.pointer (some ⟨b,0,none⟩)] w fun e w'=>e=.returned (.bool true)∧∃ w1 bv' iv' ov',RefM w' b (.slice (some ⟨g,0,none⟩) L.length cap2) bv' iv' ov' (m'.goes to)∧P w1 bv' iv' ov'∧w1.grownBy w' (some b):=by
 have hce:=h.cE
 rw [hfin] at hce
 have hcl:=h.cL
 have hca:=h.cAt
 rw [hat] at hca
 have hk0:(0:Int)≤(k:Int):=by omega
 have hk1:(k:Int)<(L.length:Int):=by omega
 have hk2:k*2≤600:=by omega
 have g1:∀ W,LinesIn W g L→Calls Tryz.prog 88 #[.slice (some ⟨g,0,none⟩) L.length cap2,.int .i64 ((k:Int)+1)] W fun e w'=>e=.returned (.int .i64 next)∧w'=W:=fun W hW=>by
  have:=zdb L g cap2 (k+1) W hW (by omega) (by omega)
  rw [hnx] at this
  simpa using this
 clear hnx
 go_enter Tryz.func55,Tryz.ntmps55
 go_wp2_with fail
 go_quiet(fail)
 replace h:=h.drewN nq
 replace hL:=hL.drewN nq
 have HV:Hid (∀ n,w.drewN (nq+n)=(w.drewN nq).drewN n):=fun n=>by rw [World.drewN_drewN]
 replace hmv:=fun n=>hmv (nq+n)
 simp only [HV.out] at hmv
 clear hce hcl hca hwd HV
 generalize w.drewN nq=w1 at h hL hmv ⊢
 have hcl:=h.cL
 have hca:=h.cAt
 rw [hat] at hca
 go_wp2_with fail
 go_quiet(first|(go_at_call 88;exact Calls.quiet_of_same (g1 _ (hL.drewN _))))
 replace hmv:=hmv nq
 clear hcl hca hL g1
 generalize w1.drewN nq=w2 at hmv ⊢
 go_wp2_with(first|(go_at_call 89;refine hmv.mono ?_;rintro e w3 ⟨rfl,bv',iv',ov',h3,hP⟩;have e3:=h3.cE;have s3:=h3.cS;have a3:=h3.cAt;have fs3:=h3.fz 4;have fa3:=h3.fz 1;rw [hz] at e3;obtain⟨st0,st1⟩:=hst))
 go_ret
 exact⟨rfl,w3,bv',iv',ov',(h3.setS _).setAt to,hP,zae (zac (Below.refl _ _)) (zac (Below.refl _ _))⟩
theorem zss(w:World)(b wb wc nw g cap2 k:Nat)(bv iv ov:Value)(L:List Said)(m m':Mc)(h:RefM w b (.slice (some ⟨g,0,none⟩) L.length cap2) bv iv ov m)(hfin:m.fin=0)(hat:m.at'=(k:Int))(hk:k<L.length)(hn:L.length≤300)(hL:LinesIn w g L)(hwd:w.cell? ⟨g,k*2+1,none⟩=some (.slice (some ⟨wb,0,none⟩) nw wc))(next:Int)(hnx:zad L (k+1)=next)(P:World→Value→Value→Value→Prop)(to:Int)(hmv:∀ n,Calls Tryz.prog 89 #[.pointer (some ⟨b,0,none⟩),.slice (some ⟨wb,0,none⟩) nw wc,.int .i64 next] (w.drewN n) fun e w'=>e=.returned (.tuple #[.int .i64 to,.bool true])∧∃ bv' iv' ov',RefM w' b (.slice (some ⟨g,0,none⟩) L.length cap2) bv' iv' ov' m'∧P w' bv' iv' ov')(hz:m'.fin=4):
  Calls Tryz.prog 55 #[.pointer (some ⟨b,0,none⟩)] w fun e w'=>e=.returned (.bool false)∧∃ bv' iv' ov',RefM w' b (.slice (some ⟨g,0,none⟩) L.length cap2) bv' iv' ov' m'∧P w' bv' iv' ov':=by
 have hce:=h.cE
 rw [hfin] at hce
 have hcl:=h.cL
 have hca:=h.cAt
 rw [hat] at hca
 have hk0:(0:Int)≤(k:Int):=by omega
 have hk1:(k:Int)<(L.length:Int):=by omega
 have hk2:k*2≤600:=by omega
 have g1:∀ W,LinesIn W g L→Calls Tryz.prog 88 #[.slice (some ⟨g,0,none⟩) L.length cap2,.int .i64 ((k:Int)+1)] W fun e w'=>e=.returned (.int .i64 next)∧w'=W:=fun W hW=>by
  have:=zdb L g cap2 (k+1) W hW (by omega) (by omega)
  rw [hnx] at this
  simpa using this
 clear hnx
 go_enter Tryz.func55,Tryz.ntmps55
 go_wp2_with fail
 go_quiet(fail)
 replace h:=h.drewN nq
 replace hL:=hL.drewN nq
 have HV:Hid (∀ n,w.drewN (nq+n)=(w.drewN nq).drewN n):=fun n=>by rw [World.drewN_drewN]
 replace hmv:=fun n=>hmv (nq+n)
 simp only [HV.out] at hmv
 clear hce hcl hca hwd HV
 generalize w.drewN nq=w1 at h hL hmv ⊢
 have hcl:=h.cL
 have hca:=h.cAt
 rw [hat] at hca
 go_wp2_with fail
 go_quiet(first|(go_at_call 88;exact Calls.quiet_of_same (g1 _ (hL.drewN _))))
 replace hmv:=hmv nq
 clear hcl hca hL g1
 generalize w1.drewN nq=w2 at hmv ⊢
 go_wp2_with(first|(go_at_call 89;refine hmv.mono ?_;rintro e w3 ⟨rfl,bv',iv',ov',h3,hP⟩;have e3:=h3.cE;rw [hz] at e3))
 go_ret
 exact⟨rfl,bv',iv',ov',h3,hP⟩
theorem zhM(w:World)(b wb wc nw g cap2 k:Nat)(bv iv ov:Value)(L:List Said)(m m':Mc)(h:RefM w b (.slice (some ⟨g,0,none⟩) L.length cap2) bv iv ov m)(hfin:m.fin=0)(hat:m.at'=(k:Int))(hk:k<L.length)(hn:L.length≤300)(hL:LinesIn w g L)(hwd:w.cell? ⟨g,k*2+1,none⟩=some (.slice (some ⟨wb,0,none⟩) nw wc))(next:Int)(hnx:zad L (k+1)=next)(P:World→Value→Value→Value→Prop)(z:Int)(hmv:∀ n,Calls Tryz.prog 89 #[.pointer (some ⟨b,0,none⟩),.slice (some ⟨wb,0,none⟩) nw wc,.int .i64 next] (w.drewN n) fun e w'=>e=.returned (.tuple #[.int .i64 next,.bool false])∧w'=w.drewN n)(hdo:∀ n,Calls Tryz.prog 90 #[.pointer (some ⟨b,0,none⟩),.slice (some ⟨wb,0,none⟩) nw wc] (w.drewN n) fun e w'=>e=.returned (.tuple #[])∧∃ bv' iv' ov',RefM w' b (.slice (some ⟨g,0,none⟩) L.length cap2) bv' iv' ov' m'∧P w' bv' iv' ov')(hz:m'.fin=z)(hz3:(z == 3)=false)(hz4:(z == 4)=false)(hst:0≤m'.steps∧m'.steps≤1000000):
  Calls Tryz.prog 55 #[.pointer (some ⟨b,0,none⟩)] w fun e w'=>e=.returned (.bool true)∧∃ w1 bv' iv' ov',RefM w' b (.slice (some ⟨g,0,none⟩) L.length cap2) bv' iv' ov' (m'.goes next)∧P w1 bv' iv' ov'∧w1.grownBy w' (some b):=by
 have hce:=h.cE
 rw [hfin] at hce
 have hcl:=h.cL
 have hca:=h.cAt
 rw [hat] at hca
 have hk0:(0:Int)≤(k:Int):=by omega
 have hk1:(k:Int)<(L.length:Int):=by omega
 have hk2:k*2≤600:=by omega
 have g1:∀ W,LinesIn W g L→Calls Tryz.prog 88 #[.slice (some ⟨g,0,none⟩) L.length cap2,.int .i64 ((k:Int)+1)] W fun e w'=>e=.returned (.int .i64 next)∧w'=W:=fun W hW=>by
  have:=zdb L g cap2 (k+1) W hW (by omega) (by omega)
  rw [hnx] at this
  simpa using this
 clear hnx
 go_enter Tryz.func55,Tryz.ntmps55
 go_wp2_with fail
 go_quiet(fail)
 replace h:=h.drewN nq
 replace hL:=hL.drewN nq
 have HV:Hid (∀ n,w.drewN (nq+n)=(w.drewN nq).drewN n):=fun n=>by rw [World.drewN_drewN]
 replace hmv:=fun n=>hmv (nq+n)
 replace hdo:=fun n=>hdo (nq+n)
 simp only [HV.out] at hmv hdo
 clear hce hcl hca hwd HV
 generalize w.drewN nq=w1 at h hL hmv hdo ⊢
 have hcl:=h.cL
 have hca:=h.cAt
 rw [hat] at hca
 go_wp2_with fail
 go_quiet(first|(go_at_call 88;exact Calls.quiet_of_same (g1 _ (hL.drewN _))))
 replace hmv:=hmv nq
 replace hdo:=hdo nq
 clear hcl hca hL g1
 generalize w1.drewN nq=w2 at hmv hdo ⊢
 go_wp2_with(first|(go_at_call 89;refine hmv.mono ?_;rintro e wx ⟨rfl,hww⟩;have hw2:=hww.symm;subst hw2)|(go_at_call 90;refine hdo.mono ?_;rintro e w3 ⟨rfl,bv',iv',ov',h3,hP⟩;have e3:=h3.cE;have s3:=h3.cS;have a3:=h3.cAt;have fs3:=h3.fz 4;have fa3:=h3.fz 1;rw [hz] at e3;obtain⟨st0,st1⟩:=hst))
 go_ret
 exact⟨rfl,w3,bv',iv',ov',(h3.setS _).setAt next,hP,zae (zac (Below.refl _ _)) (zac (Below.refl _ _))⟩
theorem zpL(w:World)(b wb wc nw g cap2 k:Nat)(bv iv ov:Value)(L:List Said)(m m':Mc)(h:RefM w b (.slice (some ⟨g,0,none⟩) L.length cap2) bv iv ov m)(hfin:m.fin=0)(hat:m.at'=(k:Int))(hk:k<L.length)(hn:L.length≤300)(hL:LinesIn w g L)(hwd:w.cell? ⟨g,k*2+1,none⟩=some (.slice (some ⟨wb,0,none⟩) nw wc))(next:Int)(hnx:zad L (k+1)=next)(P:World→Value→Value→Value→Prop)(hmv:∀ n,Calls Tryz.prog 89 #[.pointer (some ⟨b,0,none⟩),.slice (some ⟨wb,0,none⟩) nw wc,.int .i64 next] (w.drewN n) fun e w'=>e=.returned (.tuple #[.int .i64 next,.bool false])∧w'=w.drewN n)(hdo:∀ n,Calls Tryz.prog 90 #[.pointer (some ⟨b,0,none⟩),.slice (some ⟨wb,0,none⟩) nw wc] (w.drewN n) fun e w'=>e=.returned (.tuple #[])∧∃ bv' iv' ov',RefM w' b (.slice (some ⟨g,0,none⟩) L.length cap2) bv' iv' ov' m'∧P w' bv' iv' ov')(hz:m'.fin=3):
  Calls Tryz.prog 55 #[.pointer (some ⟨b,0,none⟩)] w fun e w'=>e=.returned (.bool false)∧∃ bv' iv' ov',RefM w' b (.slice (some ⟨g,0,none⟩) L.length cap2) bv' iv' ov' m'∧P w' bv' iv' ov':=by
 have hce:=h.cE
 rw [hfin] at hce
 have hcl:=h.cL
 have hca:=h.cAt
 rw [hat] at hca
 have hk0:(0:Int)≤(k:Int):=by omega
 have hk1:(k:Int)<(L.length:Int):=by omega
 have hk2:k*2≤600:=by omega
 have g1:∀ W,LinesIn W g L→Calls Tryz.prog 88 #[.slice (some ⟨g,0,none⟩) L.length cap2,.int .i64 ((k:Int)+1)] W fun e w'=>e=.returned (.int .i64 next)∧w'=W:=fun W hW=>by
  have:=zdb L g cap2 (k+1) W hW (by omega) (by omega)
  rw [hnx] at this
  simpa using this
 clear hnx
 go_enter Tryz.func55,Tryz.ntmps55
 go_wp2_with fail
 go_quiet(fail)
 replace h:=h.drewN nq
 replace hL:=hL.drewN nq
 have HV:Hid (∀ n,w.drewN (nq+n)=(w.drewN nq).drewN n):=fun n=>by rw [World.drewN_drewN]
 replace hmv:=fun n=>hmv (nq+n)
 replace hdo:=fun n=>hdo (nq+n)
 simp only [HV.out] at hmv hdo
 clear hce hcl hca hwd HV
 generalize w.drewN nq=w1 at h hL hmv hdo ⊢
 have hcl:=h.cL
 have hca:=h.cAt
 rw [hat] at hca
 go_wp2_with fail
 go_quiet(first|(go_at_call 88;exact Calls.quiet_of_same (g1 _ (hL.drewN _))))
 replace hmv:=hmv nq
 replace hdo:=hdo nq
 clear hcl hca hL g1
 generalize w1.drewN nq=w2 at hmv hdo ⊢
 go_wp2_with(first|(go_at_call 89;refine hmv.mono ?_;rintro e wx ⟨rfl,hww⟩;have hw2:=hww.symm;subst hw2)|(go_at_call 90;refine hdo.mono ?_;rintro e w3 ⟨rfl,bv',iv',ov',h3,hP⟩;have e3:=h3.cE;rw [hz] at e3))
 go_ret
 exact⟨rfl,bv',iv',ov',h3,hP⟩
theorem LinesIn.below{w w':World}{g:Nat}{L:List Said}(h:LinesIn w g L)(hb:Below w.heap.size w w'):LinesIn w' g L:=by
 have c:∀ p u,w.cell? p=some u→w'.cell? p=some u:=fun p u hp=>(hb.cell (World.block_lt_of_cell? w p hp)).trans hp
 refine⟨fun i hi=>c _ _ (h.kind i hi),fun i hi hp=>?_,h.wf⟩
 obtain⟨b,k,h1,h2⟩:=h.words i hi hp
 exact⟨b,k,c _ _ h1,fun j hj=>c _ _ (h2 j hj)⟩
structure RefAt(w:World)(b g cap2:Nat)(L:List Said)(m:Mc)(bv iv ov:Value):Prop where
 mem:RefM w b (.slice (some ⟨g,0,none⟩) L.length cap2) bv iv ov m
 backs:w.ownsRow (b+1) 3 1 bv m.backs.length (i64s m.backs)
 out:w.ownsRow (b+1) 2 1 ov m.out.length (i64s m.out)
 inp:SlB w b iv m.inp
theorem zaY{w:World}{b:Nat}{e:TypeId}{size n:Nat}{v:Value}{xs:List Value}(h:w.ownsRow (b+1) e size v n xs):v.ownBlock≠some b:=fun hb=>by have:=(h.lt b hb).1;omega
theorem zcW{w w':World}{b:Nat}(hb:b<w.heap.size)(hg:w.grownBy w' (some b)):Below b w w':=(Below.refl b w).grown hg (by omega) (fun j hj=>by cases hj;exact Nat.le_refl _)
theorem RefAt.same{w w':World}{b g cap2:Nat}{L:List Said}{m m2:Mc}{bv iv ov:Value}(h:RefAt w b g cap2 L m bv iv ov)(hM:RefM w' b (.slice (some ⟨g,0,none⟩) L.length cap2) bv iv ov m2)(hg:w.grownBy w' (some b))(e1:m2.backs=m.backs)(e2:m2.out=m.out)(e3:m2.inp=m.inp):
  RefAt w' b g cap2 L m2 bv iv ov∧Below b w w':=by
 have hb:=zcW h.mem.lt hg
 refine⟨⟨hM,?_,?_,?_⟩,hb⟩
 ·rw [e1];exact h.backs.kept hg (.inr (zaY h.backs))
 ·rw [e2];exact h.out.kept hg (.inr (zaY h.out))
 ·rw [e3];exact h.inp.below hb
def zbf(w:World)(b g cap2:Nat)(L:List Said)(m2:Mc):Ending→World→Prop:=fun e w' =>
 e=.returned (.bool (decide (¬(m2.fin=3∨m2.fin=4))))∧∃ bv iv ov,RefAt w' b g cap2 L m2 bv iv ov∧Below b w w'
structure RStep(w:World)(b wb wc g cap2 k:Nat)(L:List Said)(m:Mc)(bv iv ov:Value)(l:List ByteArray)(next:Int):Prop where
 ref:RefAt w b g cap2 L m bv iv ov
 fin:m.fin=0
 at_:m.at'=(k:Int)
 lt:k<L.length
 few:L.length≤300
 lines:LinesIn w g L
 low:∀ W,Below b w W→LinesIn W g L
 wd:w.cell? ⟨g,k*2+1,none⟩=some (.slice (some ⟨wb,0,none⟩) l.length wc)
 words:WdIn w wb l
 apart:¬wb=b
 sizes:∀ x∈l,x.size≤1048576
 next_:zad L (k+1)=next
 st0:0≤m.steps
 st1:m.steps≤100000
theorem WdIn.drewN{w:World}{wb:Nat}{l:List ByteArray}(h:WdIn w wb l)(n:Nat):WdIn (w.drewN n) wb l:=h
theorem za6{w w':World}{n:Nat}{r:Option Nat}(h:(w.drewN n).grownBy w' r):w.grownBy w' r:=⟨h.os,h.tape,h.output,h.size,h.block⟩
theorem RStep.does{w:World}{b wb wc g cap2 k:Nat}{L:List Said}{m m1:Mc}{bv iv ov:Value}{l:List ByteArray}{next:Int}(S:RStep w b wb wc g cap2 k L m bv iv ov l next)
  (hmv:∀ n,Calls Tryz.prog 89 #[.pointer (some ⟨b,0,none⟩),.slice (some ⟨wb,0,none⟩) l.length wc,.int .i64 next] (w.drewN n) fun e w'=>e=.returned (.tuple #[.int .i64 next,.bool false])∧w'=w.drewN n)
  (hdo:∀ n,Calls Tryz.prog 90 #[.pointer (some ⟨b,0,none⟩),.slice (some ⟨wb,0,none⟩) l.length wc] (w.drewN n) fun e w'=>e=.returned (.tuple #[])∧RefM w' b (.slice (some ⟨g,0,none⟩) L.length cap2) bv iv ov m1∧(w.drewN n).grownBy w' (some b))
  (hf:m1.fin=0) (hs:m1.steps=m.steps) (e1:m1.backs=m.backs) (e2:m1.out=m.out) (e3:m1.inp=m.inp) :
  Calls Tryz.prog 55 #[.pointer (some ⟨b,0,none⟩)] w (zbf w b g cap2 L (m1.goes next)):=by
 have S0:=S.st0
 have S1:=S.st1
 refine(zhM w b wb wc l.length g cap2 k bv iv ov L m m1 S.ref.mem S.fin S.at_ S.lt S.few S.lines S.wd next S.next_ (fun w1 bv' iv' ov'=>w.grownBy w1 (some b)∧bv'=bv∧iv'=iv∧ov'=ov) 0 hmv
  (fun n=>(hdo n).mono ?_) hf rfl rfl (by rw [hs];omega)).mono ?_
 ·rintro e w' ⟨h1,h2,h3⟩
  exact⟨h1,bv,iv,ov,h2,za6 h3,rfl,rfl,rfl⟩
 ·rintro e w' ⟨rfl,w1,bv',iv',ov',hM,⟨hg,rfl,rfl,rfl⟩,hg2⟩
  obtain⟨q1,q2⟩:=S.ref.same hM (zae hg hg2) e1 e2 e3
  refine⟨?_,_,_,_,q1,q2⟩
  show _=Ending.returned (.bool (decide (¬(m1.fin=3∨m1.fin=4))))
  rw [hf];rfl
theorem RStep.stuck{w:World}{b wb wc g cap2 k:Nat}{L:List Said}{m m1:Mc}{bv iv ov:Value}{l:List ByteArray}{next:Int}(S:RStep w b wb wc g cap2 k L m bv iv ov l next)
  (hmv:∀ n,Calls Tryz.prog 89 #[.pointer (some ⟨b,0,none⟩),.slice (some ⟨wb,0,none⟩) l.length wc,.int .i64 next] (w.drewN n) fun e w'=>e=.returned (.tuple #[.int .i64 next,.bool false])∧w'=w.drewN n)
  (hdo:∀ n,Calls Tryz.prog 90 #[.pointer (some ⟨b,0,none⟩),.slice (some ⟨wb,0,none⟩) l.length wc] (w.drewN n) fun e w'=>e=.returned (.tuple #[])∧RefM w' b (.slice (some ⟨g,0,none⟩) L.length cap2) bv iv ov m1∧(w.drewN n).grownBy w' (some b))
  (hf:m1.fin=3) (e1:m1.backs=m.backs) (e2:m1.out=m.out) (e3:m1.inp=m.inp) :
  Calls Tryz.prog 55 #[.pointer (some ⟨b,0,none⟩)] w (zbf w b g cap2 L m1):=by
 refine(zpL w b wb wc l.length g cap2 k bv iv ov L m m1 S.ref.mem S.fin S.at_ S.lt S.few S.lines S.wd next S.next_ (fun w1 bv' iv' ov'=>w.grownBy w1 (some b)∧bv'=bv∧iv'=iv∧ov'=ov) hmv
  (fun n=>(hdo n).mono ?_) hf).mono ?_
 ·rintro e w' ⟨h1,h2,h3⟩
  exact⟨h1,bv,iv,ov,h2,za6 h3,rfl,rfl,rfl⟩
 ·rintro e w' ⟨rfl,bv',iv',ov',hM,hg,rfl,rfl,rfl⟩
  obtain⟨q1,q2⟩:=S.ref.same hM hg e1 e2 e3
  refine⟨?_,_,_,_,q1,q2⟩
  rw [hf];rfl
theorem RStep.moves{w:World}{b wb wc g cap2 k:Nat}{L:List Said}{m m1:Mc}{bv iv ov:Value}{l:List ByteArray}{next:Int}(S:RStep w b wb wc g cap2 k L m bv iv ov l next)(to z:Int)
  (hmv:∀ n,Calls Tryz.prog 89 #[.pointer (some ⟨b,0,none⟩),.slice (some ⟨wb,0,none⟩) l.length wc,.int .i64 next] (w.drewN n) fun e w'=>e=.returned (.tuple #[.int .i64 to,.bool true])∧RefM w' b (.slice (some ⟨g,0,none⟩) L.length cap2) bv iv ov m1∧(w.drewN n).grownBy w' (some b))
  (hf:m1.fin=z) (hz:z=0∨z=1∨z=2) (hs:m1.steps=m.steps) (e1:m1.backs=m.backs) (e2:m1.out=m.out) (e3:m1.inp=m.inp) :
  Calls Tryz.prog 55 #[.pointer (some ⟨b,0,none⟩)] w (zbf w b g cap2 L (m1.goes to)):=by
 have S0:=S.st0
 have S1:=S.st1
 refine(zgw w b wb wc l.length g cap2 k bv iv ov L m m1 S.ref.mem S.fin S.at_ S.lt S.few S.lines S.wd next S.next_ (fun w1 bv' iv' ov'=>w.grownBy w1 (some b)∧bv'=bv∧iv'=iv∧ov'=ov) to z
  (fun n=>(hmv n).mono ?_) hf (by rcases hz with rfl|rfl|rfl <;> rfl) (by rcases hz with rfl|rfl|rfl <;> rfl) (by rw [hs];omega)).mono ?_
 ·rintro e w' ⟨h1,h2,h3⟩
  exact⟨h1,bv,iv,ov,h2,za6 h3,rfl,rfl,rfl⟩
 ·rintro e w' ⟨rfl,w1,bv',iv',ov',hM,⟨hg,rfl,rfl,rfl⟩,hg2⟩
  obtain⟨q1,q2⟩:=S.ref.same hM (zae hg hg2) e1 e2 e3
  refine⟨?_,_,_,_,q1,q2⟩
  show _=Ending.returned (.bool (decide (¬(m1.fin=3∨m1.fin=4))))
  rw [hf]
  rcases hz with rfl|rfl|rfl <;> rfl
end Go.Proofs.YtfpgjkbjbbgciaaGreatDoor
