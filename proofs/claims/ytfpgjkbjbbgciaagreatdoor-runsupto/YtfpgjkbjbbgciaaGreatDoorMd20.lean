import Derived.Test.YtfpgjkbjbbgciaaGreatDoorMd16
import Derived.Test.YtfpgjkbjbbgciaaGreatDoorMd19
set_option maxRecDepth 100000
set_option maxHeartbeats 8000000
namespace Go.Proofs.YtfpgjkbjbbgciaaGreatDoor
open Go.RowKit Sp
structure InvR(L:List Said)(m:Mc):Prop where
 at_:zcX L m.at'
 backs:∀ z∈m.backs,zcX L z
 frames:m.frames=(m.backs.length:Int)+1
 few:m.backs.length≤15
 peak:∃ p:Nat,m.peak=(p:Int)∧p≤16
 steps:0≤m.steps
 out:(m.out.length:Int)≤m.steps
theorem InvR.plain{L:List Said}{m m1:Mc}{z:Int}(I:InvR L m)(h:zcX L z)(e1:m1.backs=m.backs)(e2:m1.frames=m.frames)(e3:m1.peak=m.peak)(e4:m1.steps=m.steps)(e5:m1.out.length≤m.out.length+1):InvR L (m1.goes z):=by
 have hs:=I.steps
 have ho:=I.out
 refine⟨h,?_,?_,?_,?_,?_,?_⟩
 ·show ∀ z∈m1.backs,_;rw [e1];exact I.backs
 ·show m1.frames=(m1.backs.length:Int)+1;rw [e1,e2];exact I.frames
 ·show m1.backs.length≤15;rw [e1];exact I.few
 ·show ∃ p:Nat,m1.peak=(p:Int)∧p≤16;rw [e3];exact I.peak
 ·show 0≤m1.steps+1;omega
 ·show(m1.out.length:Int)≤m1.steps+1;omega
theorem zst{w w0:World}{b g cap2:Nat}{L:List Said}{m:Mc}{bv iv ov:Value}(G:Good L)(R:RefAt w b g cap2 L m bv iv ov)(I:InvR L m)(hfin:m.fin=0)(hL0:LinesIn w0 g L)(h0:Below w0.heap.size w0 w)(h0b:w0.heap.size≤b)(hst:m.steps≤99999)(hin:m.inp.length≤1048576):
  Calls Tryz.prog 55 #[.pointer (some ⟨b,0,none⟩)] w (zbf w b g cap2 L (zbP L m))∧((zbP L m).fin=0→InvR L (zbP L m)):=by
 obtain⟨k,hk,hlt,h5⟩:=I.at_
 have hstep:zbP L m=exec (insQ L k L[k]) (zad L (k+1)) m:=by
  unfold zbP
  rw [hk,Int.toNat_natCast,List.getElem?_eq_getElem hlt]
 rw [hstep]
 have hL:LinesIn w g L:=hL0.below h0
 have hlen:0<L[k].kept.length:=by
  have:=G.wf k hlt
  unfold Wf at this
  omega
 obtain⟨wb,wc,hwd,hws⟩:=hL0.words k hlt hlen
 have hwbl:wb<w0.heap.size:=by
  have:=World.block_lt_of_cell? w0 _ (hws 0 hlen)
  simpa using this
 have S:RStep w b wb wc g cap2 k L m bv iv ov L[k].kept (zad L (k+1)) :=
  ⟨R,hfin,hk,hlt,G.few,hL,fun W hW=>hL0.below (h0.trans (hW.mono h0b)),(h0.cell (World.block_lt_of_cell? w0 _ hwd)).trans hwd,fun j hj=>(h0.cell (p:=⟨wb,j,none⟩) hwbl).trans (hws j hj),by omega,fun x hx=>by have:=G.size k hlt x hx;omega,rfl,I.steps,by omega⟩
 have hmiss:=G.miss k hlt
 have F:=G.form k hlt h5
 have hnext:ends (L[k].word 0)=false→zcX L (zad L (k+1)):=G.next k hlt h5
 have hml:∀ n,L[k].kept.length=n+1→zaF (L[k].word 0)=true→0≤zbZ L k (L[k].word n):=fun n hn ha=>by
  rw [zcE _ 0 hlen] at ha
  rw [zcE _ n (by omega)]
  rw [zfD L k n hlt (by simp [h5]) hn ha] at hmiss
  simpa using hmiss
 have hmf:∀ n,L[k].kept.length=n+1→zaF (L[k].word 0)=false→zcs (L[k].word 0)=true→0≤zaJ L (L[k].word n) 0:=fun n hn ha hb=>by
  rw [zcE _ 0 hlen] at ha hb
  rw [zcE _ n (by omega)]
  rw [zk5 L k n hlt (by simp [h5]) hn ha hb] at hmiss
  simpa using hmiss
 generalize hq:L[k]=q at S F hnext hml hmf
 obtain⟨kd,kp,ok⟩:=q
 simp only at S F
 unfold Said.word at hnext hml hmf
 simp only at hnext hml hmf
 have hnl:=I.frames
 have hnb:=I.few
 cases F with
 | set_ x1 x2 hx1 hx2 =>
  rw [zog L k _ x1 x2 rfl]
  obtain⟨rx1,ex1⟩:=zaq x1 hx1
  exact⟨zxY S (regN x1) rx1 ex1,fun _=>I.plain (hnext (by kernel_rfl)) rfl rfl rfl rfl (Nat.le_succ _)⟩
 | inc_ x1 x2 hx1 hx2 =>
  rw [zol L k _ x1 x2 rfl]
  obtain⟨rx1,ex1⟩:=zaq x1 hx1
  exact⟨zyd S (regN x1) rx1 ex1,fun _=>I.plain (hnext (by kernel_rfl)) rfl rfl rfl rfl (Nat.le_succ _)⟩
 | mov_ x1 x2 hx1 hx2 =>
  rw [zoh L k _ x1 x2 rfl]
  obtain⟨rx1,ex1⟩:=zaq x1 hx1
  obtain⟨rx2,ex2⟩:=zaq x2 hx2
  exact⟨zxZ S (regN x1) (regN x2) rx1 ex1 rx2 ex2,fun _=>I.plain (hnext (by kernel_rfl)) rfl rfl rfl rfl (Nat.le_succ _)⟩
 | load_ x1 x2 hx1 hx2 =>
  rw [zll L k _ x1 x2 rfl]
  obtain⟨rx1,ex1⟩:=zaq x1 hx1
  obtain⟨rx2,ex2⟩:=zaq x2 hx2
  refine⟨zwS S (regN x1) (regN x2) rx1 ex1 rx2 ex2,fun hz=>?_⟩
  simp only [exec] at hz ⊢
  split at hz
  ·cases hz
  ·rename_i hc
   rw [if_neg hc]
   exact I.plain (hnext (by kernel_rfl)) rfl rfl rfl rfl (Nat.le_succ _)
 | store_ x1 x2 hx1 hx2 =>
  rw [zjh L k _ x1 x2 rfl]
  obtain⟨rx1,ex1⟩:=zaq x1 hx1
  obtain⟨rx2,ex2⟩:=zaq x2 hx2
  refine⟨zuX S (regN x1) (regN x2) rx1 ex1 rx2 ex2,fun hz=>?_⟩
  simp only [exec] at hz ⊢
  split at hz
  ·cases hz
  ·rename_i hc
   rw [if_neg hc]
   exact I.plain (hnext (by kernel_rfl)) rfl rfl rfl rfl (Nat.le_succ _)
 | add_ x1 x2 x3 hx1 hx2 hx3 =>
  rw [zoi L k _ x1 x2 x3 rfl]
  obtain⟨rx1,ex1⟩:=zaq x1 hx1
  obtain⟨rx2,ex2⟩:=zaq x2 hx2
  obtain⟨rx3,ex3⟩:=zaq x3 hx3
  exact⟨zya S (regN x1) (regN x2) (regN x3) rx1 ex1 rx2 ex2 rx3 ex3,fun _=>I.plain (hnext (by kernel_rfl)) rfl rfl rfl rfl (Nat.le_succ _)⟩
 | sub_ x1 x2 x3 hx1 hx2 hx3 =>
  rw [zoj L k _ x1 x2 x3 rfl]
  obtain⟨rx1,ex1⟩:=zaq x1 hx1
  obtain⟨rx2,ex2⟩:=zaq x2 hx2
  obtain⟨rx3,ex3⟩:=zaq x3 hx3
  exact⟨zyb S (regN x1) (regN x2) (regN x3) rx1 ex1 rx2 ex2 rx3 ex3,fun _=>I.plain (hnext (by kernel_rfl)) rfl rfl rfl rfl (Nat.le_succ _)⟩
 | mul_ x1 x2 x3 hx1 hx2 hx3 =>
  rw [zok L k _ x1 x2 x3 rfl]
  obtain⟨rx1,ex1⟩:=zaq x1 hx1
  obtain⟨rx2,ex2⟩:=zaq x2 hx2
  obtain⟨rx3,ex3⟩:=zaq x3 hx3
  exact⟨zyc S (regN x1) (regN x2) (regN x3) rx1 ex1 rx2 ex2 rx3 ex3,fun _=>I.plain (hnext (by kernel_rfl)) rfl rfl rfl rfl (Nat.le_succ _)⟩
 | read_ x1 hx1 =>
  rw [zlm L k _ x1 rfl]
  obtain⟨rx1,ex1⟩:=zaq x1 hx1
  exact⟨zwX S (regN x1) rx1 ex1 hin,fun _=>I.plain (hnext (by kernel_rfl)) rfl rfl rfl rfl (Nat.le_succ _)⟩
 | write_ x1 hx1 =>
  rw [zji L k _ x1 rfl]
  obtain⟨rx1,ex1⟩:=zaq x1 hx1
  exact⟨zuY S (regN x1) rx1 ex1 (by have:=I.out;omega),fun _=>I.plain (hnext (by kernel_rfl)) rfl rfl rfl rfl (by simp)⟩
 | jump_ x1 hx1 =>
  rw [zlf L k _ x1 rfl]
  have h8:=hml 1 rfl (by kernel_rfl)
  obtain⟨j,hj,hjl,hj8⟩:=zeT L x1 _ h8
  have hj':zbZ L k x1=(j:Int):=hj
  have e:zeq L k x1=zad L j:=by unfold zeq;rw [hj',Int.toNat_natCast]
  rw [e]
  exact⟨zwT S j hj' (by omega),fun _=>I.plain (m1:=m) (G.lab j hjl hj8) rfl rfl rfl rfl (Nat.le_succ _)⟩
 | call_ x1 hx1 =>
  rw [zli L k _ x1 rfl]
  have h8:=hmf 1 rfl (by kernel_rfl) (by kernel_rfl)
  obtain⟨j,hj,hjl,hj2⟩:=zle L x1 _ h8
  have e:fnTo L x1=zad L (j+1):=by unfold fnTo;rw [hj];rfl
  rw [e]
  obtain⟨p,hp,hp1⟩:=I.peak
  refine⟨zwY S j (m.backs.length+1) p hj hjl (by omega) (by omega) hp hp1 (by omega),fun hz=>?_⟩
  simp only [exec] at hz ⊢
  split at hz
  ·cases hz
  ·rename_i hc
   rw [if_neg hc]
   have hs:=I.steps
   have ho:=I.out
   refine⟨G.fn j hjl hj2,?_,?_,?_,?_,?_,?_⟩
   ·show ∀ z∈m.backs++[zad L (k+1)],_
    intro z hz
    rw [List.mem_append] at hz
    rcases hz with hz|hz
    ·exact I.backs z hz
    ·simp at hz;subst hz;exact hnext (by kernel_rfl)
   ·show m.frames+1=((m.backs++[zad L (k+1)]).length:Int)+1
    simp;omega
   ·show(m.backs++[zad L (k+1)]).length≤15
    simp;omega
   ·show ∃ p:Nat,max m.peak (m.frames+1)=(p:Int)∧p≤16
    exact⟨max p (m.backs.length+2),by omega,by omega⟩
   ·show 0≤m.steps+1;omega
   ·show(m.out.length:Int)≤m.steps+1;omega
 | less_ x1 x2 x3 hx1 hx2 hx3 =>
  rw [zlg L k _ x1 x2 x3 rfl]
  obtain⟨rx1,ex1⟩:=zaq x1 hx1
  obtain⟨rx2,ex2⟩:=zaq x2 hx2
  have h8:=hml 3 rfl (by kernel_rfl)
  obtain⟨j,hj,hjl,hj8⟩:=zeT L x3 _ h8
  have hj':zbZ L k x3=(j:Int):=hj
  have e:zeq L k x3=zad L j:=by unfold zeq;rw [hj',Int.toNat_natCast]
  rw [e]
  refine⟨zwU S (regN x1) (regN x2) j rx1 ex1 rx2 ex2 hj' (by omega),fun _=>?_⟩
  simp only [exec]
  split
  ·exact I.plain (m1:=m) (G.lab j hjl hj8) rfl rfl rfl rfl (Nat.le_succ _)
  ·exact I.plain (m1:=m) (hnext (by kernel_rfl)) rfl rfl rfl rfl (Nat.le_succ _)
 | same_ x1 x2 x3 hx1 hx2 hx3 =>
  rw [zlh L k _ x1 x2 x3 rfl]
  obtain⟨rx1,ex1⟩:=zaq x1 hx1
  obtain⟨rx2,ex2⟩:=zaq x2 hx2
  have h8:=hml 3 rfl (by kernel_rfl)
  obtain⟨j,hj,hjl,hj8⟩:=zeT L x3 _ h8
  have hj':zbZ L k x3=(j:Int):=hj
  have e:zeq L k x3=zad L j:=by unfold zeq;rw [hj',Int.toNat_natCast]
  rw [e]
  refine⟨zwV S (regN x1) (regN x2) j rx1 ex1 rx2 ex2 hj' (by omega),fun _=>?_⟩
  simp only [exec]
  split
  ·exact I.plain (m1:=m) (G.lab j hjl hj8) rfl rfl rfl rfl (Nat.le_succ _)
  ·exact I.plain (m1:=m) (hnext (by kernel_rfl)) rfl rfl rfl rfl (Nat.le_succ _)
 | back_ =>
  rw [zlj L k _ rfl]
  refine⟨zwZ S m.backs.length hnl hnb rfl,fun hz=>?_⟩
  simp only [exec] at hz ⊢
  split at hz
  ·cases hz
  ·rename_i hc
   rw [if_neg hc]
   have hs:=I.steps
   have ho:=I.out
   have hdl:m.backs.dropLast.length=m.backs.length-1:=List.length_dropLast
   have hne:¬m.backs=[]:=fun e=>by rw [e] at hnl;simp at hnl;omega
   have hpos:0<m.backs.length:=List.length_pos_iff.2 hne
   refine⟨?_,?_,?_,?_,I.peak,?_,?_⟩
   ·show zcX L (m.backs.getLastD 0)
    rw [List.getLastD_eq_getLast?,List.getLast?_eq_some_getLast hne]
    exact I.backs _ (List.getLast_mem hne)
   ·intro z hz'
    exact I.backs z ((List.dropLast_sublist m.backs).subset hz')
   ·show m.frames-1=(m.backs.dropLast.length:Int)+1
    omega
   ·show m.backs.dropLast.length≤15
    omega
   ·show 0≤m.steps+1;omega
   ·show(m.out.length:Int)≤m.steps+1;omega
 | stop_ =>
  rw [zlk L k _ rfl]
  exact⟨zwW S,fun hz=>by cases hz⟩
end Go.Proofs.YtfpgjkbjbbgciaaGreatDoor
