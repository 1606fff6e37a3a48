import Derived.Test.YtfpgjkbjbbgciaaGreatDoorMd15
set_option maxRecDepth 100000
set_option maxHeartbeats 8000000
namespace Go.Proofs.YtfpgjkbjbbgciaaGreatDoor
open Go.RowKit Sp
theorem zi9(w:World)(b wb cap g cap2 k:Nat)(bv iv ov:Value)(L:List Said)(m:Mc)(x1 x2 x3:ByteArray)(next:Int)(j r s:Nat)(h:RefM w b (.slice (some ⟨g,0,none⟩) L.length cap2) bv iv ov m)(hL:LinesIn w g L)(hn:L.length≤300)(hk:k<L.length)(hat:m.at'=(k:Int))(hw:WdIn w wb [⟨#[108,101,115,115]⟩,x1,x2,x3])(hlab:zbZ L k x3=(j:Int))(hj:j≤L.length)(hr:r<8)(hreg1:reg x1=(r:Int))(hs:s<8)(hreg2:reg x2=(s:Int))(hx1:x1.size≤1048576)(hx2:x2.size≤1048576)(hc:m.regs r<m.regs s):
  Calls Tryz.prog 89 #[.pointer (some ⟨b,0,none⟩),.slice (some ⟨wb,0,none⟩) 4 cap,.int .i64 next] w fun e w'=>e=.returned (.tuple #[.int .i64 (zad L j),.bool true])∧∃ n,w'=w.drewN n:=by
 have c0:=hw 0 (by simp)
 have c1:=hw 1 (by simp)
 have c2:=hw 2 (by simp)
 have c3:=hw 3 (by simp)
 simp only [List.getElem_cons_zero,List.getElem_cons_succ] at c0 c1 c2 c3
 have hcl:=h.cL
 have hca:=h.cAt
 rw [hat] at hca
 have hcr:=h.cR r hr
 have hr0:(0:Int)≤(r:Int):=by omega
 have hr8:(r:Int)<8:=by omega
 have hcs:=h.cR s hs
 have hs0:(0:Int)≤(s:Int):=by omega
 have hs8:(s:Int)<8:=by omega
 have g3:=zap x1 r hreg1 hx1
 have g4:=zap x2 s hreg2 hx2
 have g1:∀ W,LinesIn W g L→Calls Tryz.prog 78 #[.slice (some ⟨g,0,none⟩) L.length cap2,.int .i64 (k:Int),.string x3] W fun e w'=>e=.returned (.int .i64 (j:Int))∧w'=W:=fun W hW=>by
  rw [←hlab];exact zfn L g cap2 k x3 _ hW (by omega) hk
 have g2:∀ W,LinesIn W g L→Calls Tryz.prog 88 #[.slice (some ⟨g,0,none⟩) L.length cap2,.int .i64 (j:Int)] W fun e w'=>e=.returned (.int .i64 (zad L j))∧w'=W:=fun W hW=>zdb L g cap2 j _ hW (by omega) (by omega)
 generalize zad L j=to at g2 ⊢
 clear hlab
 go_enter Tryz.func89,Tryz.ntmps89
 go_wp2_with fail
 go_quiet(first|(go_at_call 75;exact Calls.quiet_of_same (g3 _)))
 clear hcl hca hcr hcs c1
 replace h:=h.drewN nq
 replace hL:=hL.drewN nq
 replace c0:(w.drewN nq).cell? _=_:=c0
 replace c2:(w.drewN nq).cell? _=_:=c2
 generalize hq1:w.drewN nq=w1 at h hL c0 c2 ⊢
 have HQ1:Hid (w.drewN nq=w1):=hq1
 clear hq1 c3
 have hcs:=h.cR s hs
 go_wp2_with fail
 go_quiet(first|(go_at_call 75;exact Calls.quiet_of_same (g4 _)))
 clear hcs c2
 replace h:=h.drewN nq
 replace hL:=hL.drewN nq
 replace c0:(w1.drewN nq).cell? _=_:=c0
 generalize hq2:w1.drewN nq=w2 at h hL c0 ⊢
 have HQ2:Hid (w1.drewN nq=w2):=hq2
 clear hq2
 have hcl:=h.cL
 have hca:=h.cAt
 rw [hat] at hca
 go_wp2_with fail
 go_quiet(first|(go_at_call 78;exact Calls.quiet_of_same (g1 _ ⟨hL.kind,hL.words,hL.wf⟩))|(go_at_call 88;exact Calls.quiet_of_same (g2 _ ⟨hL.kind,hL.words,hL.wf⟩)))
 go_wp2
 go_ret2
 exact⟨rfl,_,by rw [←HQ2.out,←HQ1.out,World.drewN_drewN,World.drewN_drewN]⟩
theorem zjR(w:World)(b wb cap g cap2 k:Nat)(bv iv ov:Value)(L:List Said)(m:Mc)(x1 x2 x3:ByteArray)(next:Int)(j r s:Nat)(h:RefM w b (.slice (some ⟨g,0,none⟩) L.length cap2) bv iv ov m)(hL:LinesIn w g L)(_hn:L.length≤300)(_hk:k<L.length)(_hat:m.at'=(k:Int))(hw:WdIn w wb [⟨#[108,101,115,115]⟩,x1,x2,x3])(_hlab:zbZ L k x3=(j:Int))(_hj:j≤L.length)(hr:r<8)(hreg1:reg x1=(r:Int))(hs:s<8)(hreg2:reg x2=(s:Int))(hx1:x1.size≤1048576)(hx2:x2.size≤1048576)(hc:¬m.regs r<m.regs s):
  Calls Tryz.prog 89 #[.pointer (some ⟨b,0,none⟩),.slice (some ⟨wb,0,none⟩) 4 cap,.int .i64 next] w fun e w'=>e=.returned (.tuple #[.int .i64 (next),.bool true])∧∃ n,w'=w.drewN n:=by
 have c0:=hw 0 (by simp)
 have c1:=hw 1 (by simp)
 have c2:=hw 2 (by simp)
 have c3:=hw 3 (by simp)
 simp only [List.getElem_cons_zero,List.getElem_cons_succ] at c0 c1 c2 c3
 have hcl:=h.cL
 have hca:=h.cAt
 rw [_hat] at hca
 have hcr:=h.cR r hr
 have hr0:(0:Int)≤(r:Int):=by omega
 have hr8:(r:Int)<8:=by omega
 have hcs:=h.cR s hs
 have hs0:(0:Int)≤(s:Int):=by omega
 have hs8:(s:Int)<8:=by omega
 have g3:=zap x1 r hreg1 hx1
 have g4:=zap x2 s hreg2 hx2
 clear _hlab
 go_enter Tryz.func89,Tryz.ntmps89
 go_wp2_with fail
 go_quiet(first|(go_at_call 75;exact Calls.quiet_of_same (g3 _)))
 clear hcl hca hcr hcs c1
 replace h:=h.drewN nq
 replace hL:=hL.drewN nq
 replace c0:(w.drewN nq).cell? _=_:=c0
 replace c2:(w.drewN nq).cell? _=_:=c2
 generalize hq1:w.drewN nq=w1 at h hL c0 c2 ⊢
 have HQ1:Hid (w.drewN nq=w1):=hq1
 clear hq1 c3
 have hcs:=h.cR s hs
 go_wp2_with fail
 go_quiet(first|(go_at_call 75;exact Calls.quiet_of_same (g4 _)))
 go_wp2
 go_ret2
 exact⟨rfl,_,by rw [←HQ1.out,World.drewN_drewN]⟩
theorem ziA(w:World)(b wb cap g cap2 k:Nat)(bv iv ov:Value)(L:List Said)(m:Mc)(x1 x2 x3:ByteArray)(next:Int)(j r s:Nat)(h:RefM w b (.slice (some ⟨g,0,none⟩) L.length cap2) bv iv ov m)(hL:LinesIn w g L)(hn:L.length≤300)(hk:k<L.length)(hat:m.at'=(k:Int))(hw:WdIn w wb [⟨#[115,97,109,101]⟩,x1,x2,x3])(hlab:zbZ L k x3=(j:Int))(hj:j≤L.length)(hr:r<8)(hreg1:reg x1=(r:Int))(hs:s<8)(hreg2:reg x2=(s:Int))(hx1:x1.size≤1048576)(hx2:x2.size≤1048576)(hc:m.regs r=m.regs s):
  Calls Tryz.prog 89 #[.pointer (some ⟨b,0,none⟩),.slice (some ⟨wb,0,none⟩) 4 cap,.int .i64 next] w fun e w'=>e=.returned (.tuple #[.int .i64 (zad L j),.bool true])∧∃ n,w'=w.drewN n:=by
 have c0:=hw 0 (by simp)
 have c1:=hw 1 (by simp)
 have c2:=hw 2 (by simp)
 have c3:=hw 3 (by simp)
 simp only [List.getElem_cons_zero,List.getElem_cons_succ] at c0 c1 c2 c3
 have hcl:=h.cL
 have hca:=h.cAt
 rw [hat] at hca
 have hcr:=h.cR r hr
 have hr0:(0:Int)≤(r:Int):=by omega
 have hr8:(r:Int)<8:=by omega
 have hcs:=h.cR s hs
 have hs0:(0:Int)≤(s:Int):=by omega
 have hs8:(s:Int)<8:=by omega
 have g3:=zap x1 r hreg1 hx1
 have g4:=zap x2 s hreg2 hx2
 have g1:∀ W,LinesIn W g L→Calls Tryz.prog 78 #[.slice (some ⟨g,0,none⟩) L.length cap2,.int .i64 (k:Int),.string x3] W fun e w'=>e=.returned (.int .i64 (j:Int))∧w'=W:=fun W hW=>by
  rw [←hlab];exact zfn L g cap2 k x3 _ hW (by omega) hk
 have g2:∀ W,LinesIn W g L→Calls Tryz.prog 88 #[.slice (some ⟨g,0,none⟩) L.length cap2,.int .i64 (j:Int)] W fun e w'=>e=.returned (.int .i64 (zad L j))∧w'=W:=fun W hW=>zdb L g cap2 j _ hW (by omega) (by omega)
 generalize zad L j=to at g2 ⊢
 have HC:Hid (m.regs r=m.regs s):=hc
 clear hc
 clear hlab
 go_enter Tryz.func89,Tryz.ntmps89
 go_wp2_with fail
 go_quiet(first|(go_at_call 75;exact Calls.quiet_of_same (g3 _)))
 clear hcl hca hcr hcs c1
 replace h:=h.drewN nq
 replace hL:=hL.drewN nq
 replace c0:(w.drewN nq).cell? _=_:=c0
 replace c2:(w.drewN nq).cell? _=_:=c2
 generalize hq1:w.drewN nq=w1 at h hL c0 c2 ⊢
 have HQ1:Hid (w.drewN nq=w1):=hq1
 clear hq1 c3
 have hcs:=h.cR s hs
 rw [←HC.out] at hcs
 go_wp2_with fail
 go_quiet(first|(go_at_call 75;exact Calls.quiet_of_same (g4 _)))
 clear hcs c2
 replace h:=h.drewN nq
 replace hL:=hL.drewN nq
 replace c0:(w1.drewN nq).cell? _=_:=c0
 generalize hq2:w1.drewN nq=w2 at h hL c0 ⊢
 have HQ2:Hid (w1.drewN nq=w2):=hq2
 clear hq2
 have hcl:=h.cL
 have hca:=h.cAt
 rw [hat] at hca
 go_wp2_with fail
 go_quiet(first|(go_at_call 78;exact Calls.quiet_of_same (g1 _ ⟨hL.kind,hL.words,hL.wf⟩))|(go_at_call 88;exact Calls.quiet_of_same (g2 _ ⟨hL.kind,hL.words,hL.wf⟩)))
 go_wp2
 go_ret2
 exact⟨rfl,_,by rw [←HQ2.out,←HQ1.out,World.drewN_drewN,World.drewN_drewN]⟩
theorem zjS(w:World)(b wb cap g cap2 k:Nat)(bv iv ov:Value)(L:List Said)(m:Mc)(x1 x2 x3:ByteArray)(next:Int)(j r s:Nat)(h:RefM w b (.slice (some ⟨g,0,none⟩) L.length cap2) bv iv ov m)(hL:LinesIn w g L)(_hn:L.length≤300)(_hk:k<L.length)(_hat:m.at'=(k:Int))(hw:WdIn w wb [⟨#[115,97,109,101]⟩,x1,x2,x3])(_hlab:zbZ L k x3=(j:Int))(_hj:j≤L.length)(hr:r<8)(hreg1:reg x1=(r:Int))(hs:s<8)(hreg2:reg x2=(s:Int))(hx1:x1.size≤1048576)(hx2:x2.size≤1048576)(hc:¬m.regs r=m.regs s):
  Calls Tryz.prog 89 #[.pointer (some ⟨b,0,none⟩),.slice (some ⟨wb,0,none⟩) 4 cap,.int .i64 next] w fun e w'=>e=.returned (.tuple #[.int .i64 (next),.bool true])∧∃ n,w'=w.drewN n:=by
 have c0:=hw 0 (by simp)
 have c1:=hw 1 (by simp)
 have c2:=hw 2 (by simp)
 have c3:=hw 3 (by simp)
 simp only [List.getElem_cons_zero,List.getElem_cons_succ] at c0 c1 c2 c3
 have hcl:=h.cL
 have hca:=h.cAt
 rw [_hat] at hca
 have hcr:=h.cR r hr
 have hr0:(0:Int)≤(r:Int):=by omega
 have hr8:(r:Int)<8:=by omega
 have hcs:=h.cR s hs
 have hs0:(0:Int)≤(s:Int):=by omega
 have hs8:(s:Int)<8:=by omega
 have g3:=zap x1 r hreg1 hx1
 have g4:=zap x2 s hreg2 hx2
 have HC:Hid ((m.regs r == m.regs s)=false):=by unfold Hid;simpa using hc
 clear hc
 clear _hlab
 go_enter Tryz.func89,Tryz.ntmps89
 go_wp2_with fail
 go_quiet(first|(go_at_call 75;exact Calls.quiet_of_same (g3 _)))
 clear hcl hca hcr hcs c1
 replace h:=h.drewN nq
 replace hL:=hL.drewN nq
 replace c0:(w.drewN nq).cell? _=_:=c0
 replace c2:(w.drewN nq).cell? _=_:=c2
 generalize hq1:w.drewN nq=w1 at h hL c0 c2 ⊢
 have HQ1:Hid (w.drewN nq=w1):=hq1
 clear hq1 c3
 have hcs:=h.cR s hs
 go_wp2_with fail
 go_quiet(first|(go_at_call 75;exact Calls.quiet_of_same (g4 _)))
 have hce:=HC.out
 go_wp2
 go_ret2
 exact⟨rfl,_,by rw [←HQ1.out,World.drewN_drewN]⟩
theorem zhO(w:World)(a:Value):∀ j u,[a][j]?=some u→(w.alloc (.cells #[a] 3)).cell? ((⟨w.heap.size,0,none⟩:Addr).add j)=some u:=by
 intro j u hj
 have h1:=World.cell?_alloc_new (w:=w) #[a] 3 j
 have h2:(⟨w.heap.size,0,none⟩:Addr).add j=⟨w.heap.size,j,none⟩:=by simp [Addr.add];omega
 rw [h2,h1]
 rw [←List.getElem?_toArray] at hj
 exact hj
theorem zjW(w:World)(b wb cap g cap2 B f p:Nat)(bv iv ov:Value)(L:List Said)(m:Mc)(x:ByteArray)(next:Int)(j:Nat)(h:RefM w b (.slice (some ⟨g,0,none⟩) L.length cap2) bv iv ov m)(hL:∀ W,Below b w W→LinesIn W g L)(hn:L.length≤300)(hw:WdIn w wb [⟨#[99,97,108,108]⟩,x])(hfn:zaJ L x 0=(j:Int))(hj:j<L.length)
  (hf:m.frames=(f:Int)) (hf1:f<16) (hp:m.peak=(p:Int)) (_hp1:p≤16) (hcmp:p≤f) (hown:w.ownsRow B 3 1 bv m.backs.length (i64s m.backs)) (hno:bv.ownBlock≠some b) (hB:B≤w.heap.size) (hBb:b<B) (hlen:m.backs.length≤16) :
  Calls Tryz.prog 89 #[.pointer (some ⟨b,0,none⟩),.slice (some ⟨wb,0,none⟩) 2 cap,.int .i64 next] w fun e w'=>e=.returned (.tuple #[.int .i64 (zad L (j+1)),.bool true]) ∧
   ∃ gb c w4,RefM w' b (.slice (some ⟨g,0,none⟩) L.length cap2) (.slice (some ⟨gb,0,none⟩) (m.backs.length+1) c) iv ov { m with backs:=m.backs++[next],frames:=(f:Int)+1,peak:=(f:Int)+1 }∧w4.ownsRow B 3 1 (.slice (some ⟨gb,0,none⟩) (m.backs.length+1) c) (m.backs.length+1) (i64s (m.backs++[next]))∧w.grownBy w4 bv.ownBlock∧w4.grownBy w' (some b):=by
 have c0:=hw 0 (by simp)
 have c1:=hw 1 (by simp)
 simp only [List.getElem_cons_zero,List.getElem_cons_succ] at c0 c1
 have lg:=h.lt
 have hcf:=h.cF
 rw [hf] at hcf
 have hcb:=h.cB
 have hfb:=h.fz 2
 have hf16:((f:Int) == 16)=false:=by simp;omega
 obtain⟨i0,hi0,hz0,hz1,hz2⟩:=info_parts Tryz.info3
 have hne2:some b≠bv.ownBlock:=fun e=>hno e.symm
 have hne4:¬w.heap.size=b:=by omega
 have hne5:¬b=w.heap.size:=by omega
 have HN:Hid (LinesIn w g L):=hL w (Below.refl _ _)
 go_enter Tryz.func89,Tryz.ntmps89
 go_wp2_with(first
  | (at_builtin;refine wpList_append_own _ rfl _ _ 59 rfl B 3 i0 (.int .i64 0) 1 8 Tryz.under59 hi0 hz0 hz1 hz2 rfl (by decide) _ _ _ rfl (hown.alloc _) ⟨w.heap.size,0,none⟩ 1 1 [.int .i64 next] rfl rfl (zhO _ _) (by simp [Value.oneCell']) (by unfold maxLen;omega) (by omega) (by simp;omega) ?_))
 intro v' w4 hown4 hgrow _
 obtain⟨gb,c,rfl,hgb,hgl⟩:=hown4.form (by omega)
 have hcb4:w4.cell? ⟨b,2,none⟩=some bv:=(hgrow.cell_far _ (by simp;omega) hne2).trans ((World.cell?_alloc_lt w _ _ lg).trans hcb)
 have h4:RefM w4 b (.slice (some ⟨g,0,none⟩) L.length cap2) bv iv ov m:=h.of_block ((hgrow.block b (by simp;omega) hne2).trans (Below.heap_alloc _ _ _ lg))
 have hg4:w.grownBy w4 bv.ownBlock:=(World.grownBy_alloc w _ _).trans hgrow
 have hb4:Below b w w4:=(Below.refl b w).grown hg4 (by omega) (fun q hq=>by have:=(hown.lt q hq).1;omega)
 clear hcb hcf hcb4 c0 c1 hfb
 have hcb:=h4.cB
 have hfb:=h4.fz 2
 have hcf:=h4.cF
 rw [hf] at hcf
 have hff:=h4.fz 30
 go_wp2_with fail
 have h6:=(h4.setB (.slice (some ⟨gb,0,none⟩) (m.backs.length+1) c) (m.backs++[next])).setF ((f:Int)+1)
 have hg6:w4.grownBy ((w4.setCell ⟨b,2,none⟩ (.slice (some ⟨gb,0,none⟩) (m.backs.length+1) c)).setCell ⟨b,30,none⟩ (.int .i64 ((f:Int)+1))) (some b):=zae (zac (Below.refl _ _)) (zac (Below.refl _ _))
 clear hcb hfb hcf hff
 generalize (w4.setCell ⟨b,2,none⟩ (.slice (some ⟨gb,0,none⟩) (m.backs.length+1) c)).setCell ⟨b,30,none⟩ (.int .i64 ((f:Int)+1))=w6 at h6 hg6 ⊢
 have hcf:=h6.cF
 have hcp:=h6.cP
 simp only [hp] at hcf hcp
 have hlt':(p:Int)<(f:Int)+1:=by omega
 go_quiet(fail)
 replace h6:=h6.drewN nq
 replace hg6:w4.grownBy (w6.drewN nq) (some b):=⟨hg6.os,hg6.tape,hg6.output,hg6.size,hg6.block⟩
 clear hcf hcp
 generalize w6.drewN nq=w7 at h6 hg6 ⊢
 have hcf:=h6.cF
 have hcp:=h6.cP
 have hfp:=h6.fz 31
 go_wp2_with fail
 have h8:=h6.setP ((f:Int)+1)
 have hg8:w4.grownBy (w7.setCell ⟨b,31,none⟩ (.int .i64 ((f:Int)+1))) (some b):=zae hg6 (zac (Below.refl _ _))
 clear hcf hcp hfp
 generalize w7.setCell ⟨b,31,none⟩ (.int .i64 ((f:Int)+1))=w8 at h8 hg8 ⊢
 have hlb:Below b w w8:=hb4.trans ((Below.refl b w4).grown hg8 (by have:=hb4.size;omega) (fun q hq=>by cases hq;exact Nat.le_refl _))
 have hL8:=hL w8 hlb
 have g5:∀ n,Calls Tryz.prog 77 #[.slice (some ⟨g,0,none⟩) L.length cap2,.string x] (w8.drewN n) fun e w'=>e=.returned (.int .i64 (j:Int))∧w'=w8.drewN n:=fun n=>by
  rw [←hfn];exact znS L g cap2 x _ (hL8.drewN n) (by omega)
 have g6:∀ n,Calls Tryz.prog 88 #[.slice (some ⟨g,0,none⟩) L.length cap2,.int .i64 ((j:Int)+1)] (w8.drewN n) fun e w'=>e=.returned (.int .i64 (zad L (j+1)))∧w'=w8.drewN n:=fun n=>by
  have:=zdb L g cap2 (j+1) _ (hL8.drewN n) (by omega) (by omega)
  simpa using this
 generalize hto:zad L (j+1)=to at g6
 have HTO:Hid (zad L (j+1)=to):=hto
 clear hto
 clear hfn hL8 hL HN
 have hcl:=h8.cL
 go_quiet(first|(go_at_call 77;exact Calls.quiet_of_same (g5 _))|(go_at_call 88;exact Calls.quiet_of_same (g6 _)))
 go_wp2
 go_ret2
 first
  | exact⟨by rw [HTO.out];rfl,gb,c,h8.drewN nq,w4,by simpa [i64s] using hown4,hg4,⟨hg8.os,hg8.tape,hg8.output,hg8.size,hg8.block⟩⟩
  | exact⟨by rw [HTO.out];rfl,gb,c,w4,h8.drewN nq,by simpa [i64s] using hown4,hg4,⟨hg8.os,hg8.tape,hg8.output,hg8.size,hg8.block⟩⟩
theorem zjX(w:World)(b wb cap g cap2 B f p:Nat)(bv iv ov:Value)(L:List Said)(m:Mc)(x:ByteArray)(next:Int)(j:Nat)(h:RefM w b (.slice (some ⟨g,0,none⟩) L.length cap2) bv iv ov m)(hL:∀ W,Below b w W→LinesIn W g L)(hn:L.length≤300)(hw:WdIn w wb [⟨#[99,97,108,108]⟩,x])(hfn:zaJ L x 0=(j:Int))(hj:j<L.length)
  (hf:m.frames=(f:Int)) (hf1:f<16) (hp:m.peak=(p:Int)) (_hp1:p≤16) (hcmp:f+1≤p) (hown:w.ownsRow B 3 1 bv m.backs.length (i64s m.backs)) (hno:bv.ownBlock≠some b) (hB:B≤w.heap.size) (hBb:b<B) (hlen:m.backs.length≤16) :
  Calls Tryz.prog 89 #[.pointer (some ⟨b,0,none⟩),.slice (some ⟨wb,0,none⟩) 2 cap,.int .i64 next] w fun e w'=>e=.returned (.tuple #[.int .i64 (zad L (j+1)),.bool true]) ∧
   ∃ gb c w4,RefM w' b (.slice (some ⟨g,0,none⟩) L.length cap2) (.slice (some ⟨gb,0,none⟩) (m.backs.length+1) c) iv ov { m with backs:=m.backs++[next],frames:=(f:Int)+1,peak:=m.peak }∧w4.ownsRow B 3 1 (.slice (some ⟨gb,0,none⟩) (m.backs.length+1) c) (m.backs.length+1) (i64s (m.backs++[next]))∧w.grownBy w4 bv.ownBlock∧w4.grownBy w' (some b):=by
 have c0:=hw 0 (by simp)
 have c1:=hw 1 (by simp)
 simp only [List.getElem_cons_zero,List.getElem_cons_succ] at c0 c1
 have lg:=h.lt
 have hcf:=h.cF
 rw [hf] at hcf
 have hcb:=h.cB
 have hfb:=h.fz 2
 have hf16:((f:Int) == 16)=false:=by simp;omega
 obtain⟨i0,hi0,hz0,hz1,hz2⟩:=info_parts Tryz.info3
 have hne2:some b≠bv.ownBlock:=fun e=>hno e.symm
 have hne4:¬w.heap.size=b:=by omega
 have hne5:¬b=w.heap.size:=by omega
 have HN:Hid (LinesIn w g L):=hL w (Below.refl _ _)
 go_enter Tryz.func89,Tryz.ntmps89
 go_wp2_with(first
  | (at_builtin;refine wpList_append_own _ rfl _ _ 59 rfl B 3 i0 (.int .i64 0) 1 8 Tryz.under59 hi0 hz0 hz1 hz2 rfl (by decide) _ _ _ rfl (hown.alloc _) ⟨w.heap.size,0,none⟩ 1 1 [.int .i64 next] rfl rfl (zhO _ _) (by simp [Value.oneCell']) (by unfold maxLen;omega) (by omega) (by simp;omega) ?_))
 intro v' w4 hown4 hgrow _
 obtain⟨gb,c,rfl,hgb,hgl⟩:=hown4.form (by omega)
 have hcb4:w4.cell? ⟨b,2,none⟩=some bv:=(hgrow.cell_far _ (by simp;omega) hne2).trans ((World.cell?_alloc_lt w _ _ lg).trans hcb)
 have h4:RefM w4 b (.slice (some ⟨g,0,none⟩) L.length cap2) bv iv ov m:=h.of_block ((hgrow.block b (by simp;omega) hne2).trans (Below.heap_alloc _ _ _ lg))
 have hg4:w.grownBy w4 bv.ownBlock:=(World.grownBy_alloc w _ _).trans hgrow
 have hb4:Below b w w4:=(Below.refl b w).grown hg4 (by omega) (fun q hq=>by have:=(hown.lt q hq).1;omega)
 clear hcb hcf hcb4 c0 c1 hfb
 have hcb:=h4.cB
 have hfb:=h4.fz 2
 have hcf:=h4.cF
 rw [hf] at hcf
 have hff:=h4.fz 30
 go_wp2_with fail
 have h6:=(h4.setB (.slice (some ⟨gb,0,none⟩) (m.backs.length+1) c) (m.backs++[next])).setF ((f:Int)+1)
 have hg6:w4.grownBy ((w4.setCell ⟨b,2,none⟩ (.slice (some ⟨gb,0,none⟩) (m.backs.length+1) c)).setCell ⟨b,30,none⟩ (.int .i64 ((f:Int)+1))) (some b):=zae (zac (Below.refl _ _)) (zac (Below.refl _ _))
 clear hcb hfb hcf hff
 generalize (w4.setCell ⟨b,2,none⟩ (.slice (some ⟨gb,0,none⟩) (m.backs.length+1) c)).setCell ⟨b,30,none⟩ (.int .i64 ((f:Int)+1))=w6 at h6 hg6 ⊢
 have hcf:=h6.cF
 have hcp:=h6.cP
 simp only [hp] at hcf hcp
 have hlt':decide ((p:Int)<(f:Int)+1)=false:=by simp;omega
 have hlt2:¬(p:Int)<(f:Int)+1:=by omega
 go_quiet(fail)
 replace h6:=h6.drewN nq
 replace hg6:w4.grownBy (w6.drewN nq) (some b):=⟨hg6.os,hg6.tape,hg6.output,hg6.size,hg6.block⟩
 clear hcf hcp
 generalize w6.drewN nq=w7 at h6 hg6 ⊢
 go_wp2_with fail
 obtain⟨w8,hw8⟩:∃ w8,w8=w7:=⟨w7,rfl⟩
 subst hw8
 have h8:=h6
 have hg8:=hg6
 have hlb:Below b w w8:=hb4.trans ((Below.refl b w4).grown hg8 (by have:=hb4.size;omega) (fun q hq=>by cases hq;exact Nat.le_refl _))
 have hL8:=hL w8 hlb
 have g5:∀ n,Calls Tryz.prog 77 #[.slice (some ⟨g,0,none⟩) L.length cap2,.string x] (w8.drewN n) fun e w'=>e=.returned (.int .i64 (j:Int))∧w'=w8.drewN n:=fun n=>by
  rw [←hfn];exact znS L g cap2 x _ (hL8.drewN n) (by omega)
 have g6:∀ n,Calls Tryz.prog 88 #[.slice (some ⟨g,0,none⟩) L.length cap2,.int .i64 ((j:Int)+1)] (w8.drewN n) fun e w'=>e=.returned (.int .i64 (zad L (j+1)))∧w'=w8.drewN n:=fun n=>by
  have:=zdb L g cap2 (j+1) _ (hL8.drewN n) (by omega) (by omega)
  simpa using this
 generalize hto:zad L (j+1)=to at g6
 have HTO:Hid (zad L (j+1)=to):=hto
 clear hto
 clear hfn hL8 hL HN
 have hcl:=h8.cL
 go_quiet(first|(go_at_call 77;exact Calls.quiet_of_same (g5 _))|(go_at_call 88;exact Calls.quiet_of_same (g6 _)))
 go_wp2
 go_ret2
 first
  | exact⟨by rw [HTO.out];rfl,gb,c,h8.drewN nq,w4,by simpa [i64s] using hown4,hg4,⟨hg8.os,hg8.tape,hg8.output,hg8.size,hg8.block⟩⟩
  | exact⟨by rw [HTO.out];rfl,gb,c,w4,h8.drewN nq,by simpa [i64s] using hown4,hg4,⟨hg8.os,hg8.tape,hg8.output,hg8.size,hg8.block⟩⟩
end Go.Proofs.YtfpgjkbjbbgciaaGreatDoor
