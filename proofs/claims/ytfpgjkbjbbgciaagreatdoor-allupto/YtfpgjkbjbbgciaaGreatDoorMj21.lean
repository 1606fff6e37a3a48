import Derived.Test.YtfpgjkbjbbgciaaGreatDoorMj17
import Derived.Test.YtfpgjkbjbbgciaaGreatDoorMj20
set_option maxRecDepth 100000
set_option maxHeartbeats 8000000
namespace Go.Proofs.YtfpgjkbjbbgciaaGreatDoor
open Go.RowKit Sp
theorem zjl(w:World)(b wb cap g cap2 k:Nat)(bv iv ov:Value)(L:List Said)(m:Mc)(x1 x2 x3:ByteArray)(next:Int)(j r s:Nat)(h:RefM w b (.slice (some ⟨g,0,none⟩) L.length cap2) bv iv ov m)(hL:LinesIn w g L)(hn:L.length≤300)(hk:k<L.length)(hat:m.at'=(k:Int))(hw:WdIn w wb [⟨#[108,101,115,115]⟩,x1,x2,x3])(hlab:zcj L k x3=(j:Int))(hj:j≤L.length)(hr:r<8)(hreg1:reg x1=(r:Int))(hs:s<8)(hreg2:reg x2=(s:Int))(hx1:x1.size≤1048576)(hx2:x2.size≤1048576)(hc:m.regs r<m.regs s):
  qC 89 #[.pointer (some ⟨b,0,none⟩),.slice (some ⟨wb,0,none⟩) 4 cap,.int .i64 next] w fun e w'=>e=.returned (.tuple #[.int .i64 (zad L j),.bool true])∧∃ n,w'=w.drewN n:=by
 have c:=hw 0 (by simp);have u:=hw 1 (by simp);have i:=hw 2 (by simp);have x:=hw 3 (by simp);simp only [List.getElem_cons_zero,List.getElem_cons_succ] at c u i x;have f:=h.cL;have a:=h.cAt;rw [hat] at a;have p:=h.cR r hr;have hr0:(0:Int)≤(r:Int):=by omega
 have hr8:(r:Int)<8:=by omega
 have d:=h.cR s hs;have hs0:(0:Int)≤(s:Int):=by omega
 have hs8:(s:Int)<8:=by omega
 have z:=zav x1 r hreg1 hx1;have y:=zav x2 s hreg2 hx2;have A:∀ W,LinesIn W g L→qC 78 #[.slice (some ⟨g,0,none⟩) L.length cap2,.int .i64 (k:Int),.string x3] W fun e w'=>e=.returned (.int .i64 (j:Int))∧w'=W:=fun W hW=>by
  rw [←hlab];exact zf3 L g cap2 k x3 _ hW (by omega) hk
 have v:∀ W,LinesIn W g L→qC 88 #[.slice (some ⟨g,0,none⟩) L.length cap2,.int .i64 (j:Int)] W fun e w'=>e=.returned (.int .i64 (zad L j))∧w'=W:=fun W hW=>zdn L g cap2 j _ hW (by omega) (by omega);generalize zad L j=to at v ⊢;clear hlab;go_enter Tryz.func89,Tryz.ntmps89;go_wp2_with fail
 go_quiet(first|(go_at_call 75;exact Calls.quiet_of_same (z _)))
 clear f a p d u;replace h:=h.drewN nq;replace hL:=hL.drewN nq;replace c:(w.drewN nq).cell? _=_:=c;replace i:(w.drewN nq).cell? _=_:=i;generalize l:w.drewN nq=w1 at h hL c i ⊢;have q:Hid (w.drewN nq=w1):=l;clear l x;have d:=h.cR s hs;go_wp2_with fail
 go_quiet(first|(go_at_call 75;exact Calls.quiet_of_same (y _)))
 clear d i;replace h:=h.drewN nq;replace hL:=hL.drewN nq;replace c:(w1.drewN nq).cell? _=_:=c;generalize o:w1.drewN nq=w2 at h hL c ⊢;have t:Hid (w1.drewN nq=w2):=o;clear o;have f:=h.cL;have a:=h.cAt;rw [hat] at a;go_wp2_with fail
 go_quiet(first|(go_at_call 78;exact Calls.quiet_of_same (A _ ⟨hL.kind,hL.words,hL.wf⟩))|(go_at_call 88;exact Calls.quiet_of_same (v _ ⟨hL.kind,hL.words,hL.wf⟩)))
 go_wp2;go_ret2;exact⟨rfl,_,by rw [←t.out,←q.out,World.drewN_drewN,World.drewN_drewN]⟩
theorem zk4(w:World)(b wb cap g cap2 k:Nat)(bv iv ov:Value)(L:List Said)(m:Mc)(x1 x2 x3:ByteArray)(next:Int)(j r s:Nat)(h:RefM w b (.slice (some ⟨g,0,none⟩) L.length cap2) bv iv ov m)(hL:LinesIn w g L)(_hn:L.length≤300)(_hk:k<L.length)(_hat:m.at'=(k:Int))(hw:WdIn w wb [⟨#[108,101,115,115]⟩,x1,x2,x3])(_hlab:zcj L k x3=(j:Int))(_hj:j≤L.length)(hr:r<8)(hreg1:reg x1=(r:Int))(hs:s<8)(hreg2:reg x2=(s:Int))(hx1:x1.size≤1048576)(hx2:x2.size≤1048576)(hc:¬m.regs r<m.regs s):
  qC 89 #[.pointer (some ⟨b,0,none⟩),.slice (some ⟨wb,0,none⟩) 4 cap,.int .i64 next] w fun e w'=>e=.returned (.tuple #[.int .i64 (next),.bool true])∧∃ n,w'=w.drewN n:=by
 have f:=hw 0 (by simp);have q:=hw 1 (by simp);have i:=hw 2 (by simp);have t:=hw 3 (by simp);simp only [List.getElem_cons_zero,List.getElem_cons_succ] at f q i t;have o:=h.cL;have a:=h.cAt;rw [_hat] at a;have l:=h.cR r hr;have hr0:(0:Int)≤(r:Int):=by omega
 have hr8:(r:Int)<8:=by omega
 have c:=h.cR s hs;have hs0:(0:Int)≤(s:Int):=by omega
 have hs8:(s:Int)<8:=by omega
 have v:=zav x1 r hreg1 hx1;have u:=zav x2 s hreg2 hx2;clear _hlab;go_enter Tryz.func89,Tryz.ntmps89;go_wp2_with fail
 go_quiet(first|(go_at_call 75;exact Calls.quiet_of_same (v _)))
 clear o a l c q;replace h:=h.drewN nq;replace hL:=hL.drewN nq;replace f:(w.drewN nq).cell? _=_:=f;replace i:(w.drewN nq).cell? _=_:=i;generalize d:w.drewN nq=w1 at h hL f i ⊢;have p:Hid (w.drewN nq=w1):=d;clear d t;have c:=h.cR s hs;go_wp2_with fail
 go_quiet(first|(go_at_call 75;exact Calls.quiet_of_same (u _)))
 go_wp2;go_ret2;exact⟨rfl,_,by rw [←p.out,World.drewN_drewN]⟩
theorem zjm(w:World)(b wb cap g cap2 k:Nat)(bv iv ov:Value)(L:List Said)(m:Mc)(x1 x2 x3:ByteArray)(next:Int)(j r s:Nat)(h:RefM w b (.slice (some ⟨g,0,none⟩) L.length cap2) bv iv ov m)(hL:LinesIn w g L)(hn:L.length≤300)(hk:k<L.length)(hat:m.at'=(k:Int))(hw:WdIn w wb [⟨#[115,97,109,101]⟩,x1,x2,x3])(hlab:zcj L k x3=(j:Int))(hj:j≤L.length)(hr:r<8)(hreg1:reg x1=(r:Int))(hs:s<8)(hreg2:reg x2=(s:Int))(hx1:x1.size≤1048576)(hx2:x2.size≤1048576)(hc:m.regs r=m.regs s):
  qC 89 #[.pointer (some ⟨b,0,none⟩),.slice (some ⟨wb,0,none⟩) 4 cap,.int .i64 next] w fun e w'=>e=.returned (.tuple #[.int .i64 (zad L j),.bool true])∧∃ n,w'=w.drewN n:=by
 have d:=hw 0 (by simp);have u:=hw 1 (by simp);have i:=hw 2 (by simp);have x:=hw 3 (by simp);simp only [List.getElem_cons_zero,List.getElem_cons_succ] at d u i x;have f:=h.cL;have a:=h.cAt;rw [hat] at a;have p:=h.cR r hr;have hr0:(0:Int)≤(r:Int):=by omega
 have hr8:(r:Int)<8:=by omega
 have c:=h.cR s hs;have hs0:(0:Int)≤(s:Int):=by omega
 have hs8:(s:Int)<8:=by omega
 have A:=zav x1 r hreg1 hx1;have y:=zav x2 s hreg2 hx2;have B:∀ W,LinesIn W g L→qC 78 #[.slice (some ⟨g,0,none⟩) L.length cap2,.int .i64 (k:Int),.string x3] W fun e w'=>e=.returned (.int .i64 (j:Int))∧w'=W:=fun W hW=>by
  rw [←hlab];exact zf3 L g cap2 k x3 _ hW (by omega) hk
 have v:∀ W,LinesIn W g L→qC 88 #[.slice (some ⟨g,0,none⟩) L.length cap2,.int .i64 (j:Int)] W fun e w'=>e=.returned (.int .i64 (zad L j))∧w'=W:=fun W hW=>zdn L g cap2 j _ hW (by omega) (by omega);generalize zad L j=to at v ⊢;have z:Hid (m.regs r=m.regs s):=hc;clear hc;clear hlab;go_enter Tryz.func89,Tryz.ntmps89;go_wp2_with fail
 go_quiet(first|(go_at_call 75;exact Calls.quiet_of_same (A _)))
 clear f a p c u;replace h:=h.drewN nq;replace hL:=hL.drewN nq;replace d:(w.drewN nq).cell? _=_:=d;replace i:(w.drewN nq).cell? _=_:=i;generalize l:w.drewN nq=w1 at h hL d i ⊢;have q:Hid (w.drewN nq=w1):=l;clear l x;have c:=h.cR s hs;rw [←z.out] at c;go_wp2_with fail
 go_quiet(first|(go_at_call 75;exact Calls.quiet_of_same (y _)))
 clear c i;replace h:=h.drewN nq;replace hL:=hL.drewN nq;replace d:(w1.drewN nq).cell? _=_:=d;generalize o:w1.drewN nq=w2 at h hL d ⊢;have t:Hid (w1.drewN nq=w2):=o;clear o;have f:=h.cL;have a:=h.cAt;rw [hat] at a;go_wp2_with fail
 go_quiet(first|(go_at_call 78;exact Calls.quiet_of_same (B _ ⟨hL.kind,hL.words,hL.wf⟩))|(go_at_call 88;exact Calls.quiet_of_same (v _ ⟨hL.kind,hL.words,hL.wf⟩)))
 go_wp2;go_ret2;exact⟨rfl,_,by rw [←t.out,←q.out,World.drewN_drewN,World.drewN_drewN]⟩
theorem zk5(w:World)(b wb cap g cap2 k:Nat)(bv iv ov:Value)(L:List Said)(m:Mc)(x1 x2 x3:ByteArray)(next:Int)(j r s:Nat)(h:RefM w b (.slice (some ⟨g,0,none⟩) L.length cap2) bv iv ov m)(hL:LinesIn w g L)(_hn:L.length≤300)(_hk:k<L.length)(_hat:m.at'=(k:Int))(hw:WdIn w wb [⟨#[115,97,109,101]⟩,x1,x2,x3])(_hlab:zcj L k x3=(j:Int))(_hj:j≤L.length)(hr:r<8)(hreg1:reg x1=(r:Int))(hs:s<8)(hreg2:reg x2=(s:Int))(hx1:x1.size≤1048576)(hx2:x2.size≤1048576)(hc:¬m.regs r=m.regs s):
  qC 89 #[.pointer (some ⟨b,0,none⟩),.slice (some ⟨wb,0,none⟩) 4 cap,.int .i64 next] w fun e w'=>e=.returned (.tuple #[.int .i64 (next),.bool true])∧∃ n,w'=w.drewN n:=by
 have f:=hw 0 (by simp);have q:=hw 1 (by simp);have i:=hw 2 (by simp);have t:=hw 3 (by simp);simp only [List.getElem_cons_zero,List.getElem_cons_succ] at f q i t;have o:=h.cL;have a:=h.cAt;rw [_hat] at a;have l:=h.cR r hr;have hr0:(0:Int)≤(r:Int):=by omega
 have hr8:(r:Int)<8:=by omega
 have c:=h.cR s hs;have hs0:(0:Int)≤(s:Int):=by omega
 have hs8:(s:Int)<8:=by omega
 have x:=zav x1 r hreg1 hx1;have u:=zav x2 s hreg2 hx2;have v:Hid ((m.regs r == m.regs s)=false):=by unfold Hid;simpa using hc
 clear hc;clear _hlab;go_enter Tryz.func89,Tryz.ntmps89;go_wp2_with fail
 go_quiet(first|(go_at_call 75;exact Calls.quiet_of_same (x _)))
 clear o a l c q;replace h:=h.drewN nq;replace hL:=hL.drewN nq;replace f:(w.drewN nq).cell? _=_:=f;replace i:(w.drewN nq).cell? _=_:=i;generalize d:w.drewN nq=w1 at h hL f i ⊢;have p:Hid (w.drewN nq=w1):=d;clear d t;have c:=h.cR s hs;go_wp2_with fail
 go_quiet(first|(go_at_call 75;exact Calls.quiet_of_same (u _)))
 have hce:=v.out;go_wp2;go_ret2;exact⟨rfl,_,by rw [←p.out,World.drewN_drewN]⟩
theorem zbS{W1:World}{n:Nat}(hs1:W1.heap.size=n)(cs:List Value)(hlen:cs.length=30):(W1.alloc Z34).there n 0 cs.toArray.size:=by
 rw [show cs.toArray.size=30 by simp [hlen],←hs1];exact zb8 W1
theorem zk3{w W1:World}{b:Nat}{x:Value}(hs1:W1.heap.size=w.heap.size+1)(cs:List Value)(hlen:cs.length=30)(ca1:W1.cell? ⟨b,1,none⟩=some x)(ht1:W1.there w.heap.size 0 30)(hb1:qB w W1)(lg:b<w.heap.size):
  ((W1.alloc Z34).setCells (w.heap.size+1) 0 cs.toArray.toList).rangeAt (w.heap.size+1) 0 cs∧((W1.alloc Z34).setCells (w.heap.size+1) 0 cs.toArray.toList).there (w.heap.size+1) 0 30∧((W1.alloc Z34).setCells (w.heap.size+1) 0 cs.toArray.toList).there w.heap.size 0 30 ∧
    ((W1.alloc Z34).setCells (w.heap.size+1) 0 cs.toArray.toList).cell? ⟨b,1,none⟩=some x∧((W1.alloc Z34).setCells (w.heap.size+1) 0 cs.toArray.toList).heap.size=w.heap.size+2∧qB w ((W1.alloc Z34).setCells (w.heap.size+1) 0 cs.toArray.toList):=by
 have e:cs.toArray.toList=cs:=by simp
 rw [e];have a:=zbS hs1 cs hlen;rw [show cs.toArray.size=cs.length by simp] at a;refine⟨World.rangeAt_setCells_same _ _ _ _ a,?_,World.there_setCells (World.there_alloc ht1 _) _ _ _,?_,?_,?_⟩
 ·rw [hlen] at a;exact World.there_setCells a _ _ _
 ·rw [World.cell?_setCells_out _ _ _ _ _ (fun h=>by simp at h;omega),World.cell?_alloc_lt _ _ _ (by show b<W1.heap.size;omega)];exact ca1
 ·rw [zd0];simp;omega
 ·exact zal _ _ (hb1.alloc (by omega) _) (by omega)
theorem zta(w:World)(b k:Nat)(cs ds:List Value)(z:Int)(hlen:cs.length=30)(hone:cs.toArray.all (·.oneCell')=true)(hc:w.rangeAt b 4 cs)(h28:cs[28]?=some (.int .i64 0))(h29:cs[29]?=some (.int .i64 z))(cAt:w.cell? ⟨b,1,none⟩=some (.int .i64 (k:Int)))(hk:k≤1000)(h1:(z == 1)=false)(h2:(z == 2)=false)(hds:cs.set 28 (.int .i64 ((k:Int)+1))=ds)(hone2:ds.toArray.all (·.oneCell')=true):
  qC 56 #[.pointer (some ⟨b,0,none⟩)] w (qR w (.agg ds.toArray)):=by
 have J:b<w.heap.size:=World.block_lt_of_cell? w _ cAt;have hdl:ds.length=30:=by rw [←hds,List.length_set];exact hlen
 have e:=World.rangeAt_alloc hc Z34;have g:(w.alloc Z34).cell? ⟨b,1,none⟩=some (.int .i64 (k:Int)):=(World.cell?_alloc_lt w _ _ J).trans cAt;have f:=zb8 w;have d:(w.alloc Z34).heap.size=w.heap.size+1:=by simp
 have l:qB w (w.alloc Z34):=(Below.refl _ _).alloc (Nat.le_refl _) _;have c:Tryz.prog.underlying 34=some (.struct _):=Tryz.underlying34;have m:(Tryz.prog.info? 34).map (·.size)=some cs.length:=by rw [hlen];exact Tryz.info34
 have j:(Tryz.prog.info? 34).map (·.size)=some cs.toArray.size:=by rw [show cs.toArray.size=30 by simp [hlen]];exact Tryz.info34
 have a:(Tryz.prog.info? 34).map (·.size)=some ds.length:=by rw [hdl];exact Tryz.info34
 have i:(Tryz.prog.info? 34).map (·.size)=some ds.toArray.size:=by rw [show ds.toArray.size=30 by simp [hdl]];exact Tryz.info34
 have y:∀ W:World,W.there w.heap.size 0 30→W.there w.heap.size 0 ds.toArray.size:=fun W h=>by rw [show ds.toArray.size=30 by simp [hdl]];exact h
 have C:∀ W:World,W.rangeAt (w.heap.size+1) 0 cs→W.cell? ⟨w.heap.size+1,28,none⟩=some (.int .i64 0)→(W.setCell ⟨w.heap.size+1,28,none⟩ (.int .i64 ((k:Int)+1))).rangeAt (w.heap.size+1) 0 ds:=fun W h hq=>by
  rw [←hds];have:=zdA (v:=.int .i64 ((k:Int)+1)) h (n:=28) (u:=.int .i64 0) (by simpa using hq);simpa using this
 clear hc cAt;go_enter Tryz.func56,Tryz.ntmps56;go_wp2_with(first
  | (refine wpList_load_mid rfl 34 _ rfl b 4 rfl cs _ e c rfl m ?_;generalize w.alloc Z34=W1 at e g f d l ⊢;have r:=zbS d cs hlen)
  | (refine wpList_store_mid rfl 34 _ _ rfl (w.heap.size+1) 0 cs.toArray rfl rfl r j hone ?_;obtain⟨x,H,K,E,D,q⟩:=zk3 d cs hlen g f l J;generalize (W1.alloc Z34).setCells (w.heap.size+1) 0 cs.toArray.toList=W2 at x H K E D q ⊢;clear e g f d l r;have t:=x 28 _ h28;have A:=x 29 _ h29;have F:=(H 28 (by omega)).2;simp only [Nat.zero_add] at t A F;have L:=C W2 x t;have I:=y _ (zds K ⟨w.heap.size+1,28,none⟩ (.int .i64 ((k:Int)+1)));  have B:=q.setCell (p:=⟨w.heap.size+1,28,none⟩) (Nat.le_succ _) (.int .i64 ((k:Int)+1)))
  | (refine wpList_load_mid rfl 34 _ rfl (w.heap.size+1) 0 rfl ds _ L c rfl a ?_)
  | (refine wpList_store_mid rfl 34 _ _ rfl w.heap.size 0 ds.toArray rfl rfl I i hone2 ?_))
 have G:=World.rangeAt_setCells_same (W2.setCell ⟨w.heap.size+1,28,none⟩ (.int .i64 ((k:Int)+1))) w.heap.size 0 ds (by rw [show ds.length=ds.toArray.size by simp];exact I);have o:=zal ds (b:=w.heap.size) 0 B (Nat.le_refl _);generalize (W2.setCell ⟨w.heap.size+1,28,none⟩ (.int .i64 ((k:Int)+1))).setCells w.heap.size 0 ds=W4 at G o ⊢;have s:=run_loadVar_mid W4 w.heap.size 0 34 ds _ G c rfl a;refine bodyPost_ret (v:=.agg ds.toArray) (zb9 Tryz.results56 _ ⟨w.heap.size,0,none⟩ rfl s) rfl ⟨rfl,o⟩
theorem zzR(w:World)(b:Nat)(cs ds:List Value)(z:Int)(hlen:cs.length=30)(hone:cs.toArray.all (·.oneCell')=true)(hc:w.rangeAt b 4 cs)(h28:cs[28]?=some (.int .i64 0))(h29:cs[29]?=some (.int .i64 z))(cAt:w.cell? ⟨b,1,none⟩=some (.int .i64 (-1)))(hz:z=1∨z=2)(hds:cs.set 28 (.int .i64 0)=ds)(hone2:ds.toArray.all (·.oneCell')=true):
  qC 56 #[.pointer (some ⟨b,0,none⟩)] w (qR w (.agg ds.toArray)):=by
 rcases hz with hz|hz
 all_goals
  subst hz;have L:b<w.heap.size:=World.block_lt_of_cell? w _ cAt;have hdl:ds.length=30:=by rw [←hds,List.length_set];exact hlen
  have f:=World.rangeAt_alloc hc Z34;have i:(w.alloc Z34).cell? ⟨b,1,none⟩=some (.int .i64 (-1)):=(World.cell?_alloc_lt w _ _ L).trans cAt;have g:=zb8 w;have d:(w.alloc Z34).heap.size=w.heap.size+1:=by simp
  have l:qB w (w.alloc Z34):=(Below.refl _ _).alloc (Nat.le_refl _) _;have c:Tryz.prog.underlying 34=some (.struct _):=Tryz.underlying34;have o:(Tryz.prog.info? 34).map (·.size)=some cs.length:=by rw [hlen];exact Tryz.info34
  have k:(Tryz.prog.info? 34).map (·.size)=some cs.toArray.size:=by rw [show cs.toArray.size=30 by simp [hlen]];exact Tryz.info34
  have a:(Tryz.prog.info? 34).map (·.size)=some ds.length:=by rw [hdl];exact Tryz.info34
  have j:(Tryz.prog.info? 34).map (·.size)=some ds.toArray.size:=by rw [show ds.toArray.size=30 by simp [hdl]];exact Tryz.info34
  have y:∀ W:World,W.there w.heap.size 0 30→W.there w.heap.size 0 ds.toArray.size:=fun W h=>by rw [show ds.toArray.size=30 by simp [hdl]];exact h
  have E:∀ W:World,W.rangeAt (w.heap.size+1) 0 cs→W.cell? ⟨w.heap.size+1,28,none⟩=some (.int .i64 0)→(W.setCell ⟨w.heap.size+1,28,none⟩ (.int .i64 0)).rangeAt (w.heap.size+1) 0 ds:=fun W h hq=>by
   rw [←hds];have:=zdA (v:=.int .i64 0) h (n:=28) (u:=.int .i64 0) (by simpa using hq);simpa using this
  have A:∀ W:World,W.rangeAt (w.heap.size+1) 0 ds→W.cell? ⟨w.heap.size+1,28,none⟩=some (.int .i64 0)→(W.setCell ⟨w.heap.size+1,28,none⟩ (.int .i64 0)).rangeAt (w.heap.size+1) 0 ds:=fun W h hq=>by
   have:=zdA (v:=.int .i64 0) h (n:=28) (u:=.int .i64 0) (by simpa using hq);have e:ds.set 28 (.int .i64 0)=ds:=by rw [←hds,List.set_set]
   rw [e] at this;simpa using this
  clear hc cAt;go_enter Tryz.func56,Tryz.ntmps56;go_wp2_with(first
   | (refine wpList_load_mid rfl 34 _ rfl b 4 rfl cs _ f c rfl o ?_;generalize w.alloc Z34=W1 at f i g d l ⊢;have s:=zbS d cs hlen)
   | (refine wpList_store_mid rfl 34 _ _ rfl (w.heap.size+1) 0 cs.toArray rfl rfl s k hone ?_;obtain⟨x,J,M,G,F,r⟩:=zk3 d cs hlen i g l L;generalize (W1.alloc Z34).setCells (w.heap.size+1) 0 cs.toArray.toList=W2 at x J M G F r ⊢;clear f i g d l s;have m:=x 28 _ h28;have B:=x 29 _ h29;have H:=(J 28 (by omega)).2;simp only [Nat.zero_add] at m B H;have C:=E W2 x m;have N:=A _ C (World.cell?_setCell_same W2 _ _ m);have K:=y _ (zds (zds M ⟨w.heap.size+1,28,none⟩ (.int .i64 0)) ⟨w.heap.size+1,28,none⟩ (.int .i64 0));  have D:=(r.setCell (p:=⟨w.heap.size+1,28,none⟩) (Nat.le_succ _) (.int .i64 0)).setCell (p:=⟨w.heap.size+1,28,none⟩) (Nat.le_succ _) (.int .i64 0))
   | (refine wpList_load_mid rfl 34 _ rfl (w.heap.size+1) 0 rfl ds _ N c rfl a ?_)
   | (refine wpList_store_mid rfl 34 _ _ rfl w.heap.size 0 ds.toArray rfl rfl K j hone2 ?_))
  have I:=World.rangeAt_setCells_same ((W2.setCell ⟨w.heap.size+1,28,none⟩ (.int .i64 0)).setCell ⟨w.heap.size+1,28,none⟩ (.int .i64 0)) w.heap.size 0 ds (by rw [show ds.length=ds.toArray.size by simp];exact K);have q:=zal ds (b:=w.heap.size) 0 D (Nat.le_refl _);generalize ((W2.setCell ⟨w.heap.size+1,28,none⟩ (.int .i64 0)).setCell ⟨w.heap.size+1,28,none⟩ (.int .i64 0)).setCells w.heap.size 0 ds=W4 at I q ⊢;have t:=run_loadVar_mid W4 w.heap.size 0 34 ds _ I c rfl a;refine bodyPost_ret (v:=.agg ds.toArray) (zb9 Tryz.results56 _ ⟨w.heap.size,0,none⟩ rfl t) rfl ⟨rfl,q⟩
theorem zzn{w:World}{b wb wc g cap2 k:Nat}{L:List Said}{m:Mc}{bv iv ov:Value}{next:Int}{x1 x2:ByteArray}(S:RStep w b wb wc g cap2 k L m bv iv ov [⟨#[115,101,116]⟩,x1,x2] next)(r:Nat)(hr:r<8)(hreg:reg x1=(r:Int)):
  qC 55 #[.pointer (some ⟨b,0,none⟩)] w (zbm w b g cap2 L (exec (.set r (zaI x2).1) next m)):=by
 exact S.does (fun n=>zbw (w.drewN n) b wb wc 2 [⟨#[115,101,116]⟩,x1,x2] next rfl (by decide) (S.words.drewN n) (by kernel_rfl) (by kernel_rfl) (by kernel_rfl) (by kernel_rfl) (by kernel_rfl) (by kernel_rfl))
  (fun n=>zv5 (w.drewN n) b wb wc r _ bv iv ov m x1 x2 (S.ref.mem.drewN n) (S.words.drewN n) S.apart hr hreg (S.sizes x1 (by simp)) (S.sizes x2 (by simp))) S.fin rfl rfl rfl rfl
theorem zzo{w:World}{b wb wc g cap2 k:Nat}{L:List Said}{m:Mc}{bv iv ov:Value}{next:Int}{x1 x2:ByteArray}(S:RStep w b wb wc g cap2 k L m bv iv ov [⟨#[109,111,118]⟩,x1,x2] next)(r s:Nat)(hr:r<8)(hreg:reg x1=(r:Int))(hs:s<8)(hreg2:reg x2=(s:Int)):
  qC 55 #[.pointer (some ⟨b,0,none⟩)] w (zbm w b g cap2 L (exec (.mov r s) next m)):=by
 exact S.does (fun n=>zbw (w.drewN n) b wb wc 2 [⟨#[109,111,118]⟩,x1,x2] next rfl (by decide) (S.words.drewN n) (by kernel_rfl) (by kernel_rfl) (by kernel_rfl) (by kernel_rfl) (by kernel_rfl) (by kernel_rfl))
  (fun n=>zv6 (w.drewN n) b wb wc r s _ bv iv ov m x1 x2 (S.ref.mem.drewN n) (S.words.drewN n) S.apart hr hreg hs hreg2 (S.sizes x1 (by simp)) (S.sizes x2 (by simp))) S.fin rfl rfl rfl rfl
theorem zzp{w:World}{b wb wc g cap2 k:Nat}{L:List Said}{m:Mc}{bv iv ov:Value}{next:Int}{x1 x2 x3:ByteArray}(S:RStep w b wb wc g cap2 k L m bv iv ov [⟨#[97,100,100]⟩,x1,x2,x3] next)(r s t:Nat)(hr:r<8)(hreg:reg x1=(r:Int))(hs:s<8)(hreg2:reg x2=(s:Int))(ht:t<8)(hreg3:reg x3=(t:Int)):
  qC 55 #[.pointer (some ⟨b,0,none⟩)] w (zbm w b g cap2 L (exec (.alu 0 r s t) next m)):=by
 exact S.does (fun n=>zbw (w.drewN n) b wb wc 3 [⟨#[97,100,100]⟩,x1,x2,x3] next rfl (by decide) (S.words.drewN n) (by kernel_rfl) (by kernel_rfl) (by kernel_rfl) (by kernel_rfl) (by kernel_rfl) (by kernel_rfl))
  (fun n=>zvP (w.drewN n) b wb wc r s t _ bv iv ov m x1 x2 x3 (S.ref.mem.drewN n) (S.words.drewN n) S.apart hr hreg hs hreg2 ht hreg3 (S.sizes x1 (by simp)) (S.sizes x2 (by simp)) (S.sizes x3 (by simp))) S.fin rfl rfl rfl rfl
theorem zzq{w:World}{b wb wc g cap2 k:Nat}{L:List Said}{m:Mc}{bv iv ov:Value}{next:Int}{x1 x2 x3:ByteArray}(S:RStep w b wb wc g cap2 k L m bv iv ov [⟨#[115,117,98]⟩,x1,x2,x3] next)(r s t:Nat)(hr:r<8)(hreg:reg x1=(r:Int))(hs:s<8)(hreg2:reg x2=(s:Int))(ht:t<8)(hreg3:reg x3=(t:Int)):
  qC 55 #[.pointer (some ⟨b,0,none⟩)] w (zbm w b g cap2 L (exec (.alu 1 r s t) next m)):=by
 exact S.does (fun n=>zbw (w.drewN n) b wb wc 3 [⟨#[115,117,98]⟩,x1,x2,x3] next rfl (by decide) (S.words.drewN n) (by kernel_rfl) (by kernel_rfl) (by kernel_rfl) (by kernel_rfl) (by kernel_rfl) (by kernel_rfl))
  (fun n=>zvQ (w.drewN n) b wb wc r s t _ bv iv ov m x1 x2 x3 (S.ref.mem.drewN n) (S.words.drewN n) S.apart hr hreg hs hreg2 ht hreg3 (S.sizes x1 (by simp)) (S.sizes x2 (by simp)) (S.sizes x3 (by simp))) S.fin rfl rfl rfl rfl
theorem zzr{w:World}{b wb wc g cap2 k:Nat}{L:List Said}{m:Mc}{bv iv ov:Value}{next:Int}{x1 x2 x3:ByteArray}(S:RStep w b wb wc g cap2 k L m bv iv ov [⟨#[109,117,108]⟩,x1,x2,x3] next)(r s t:Nat)(hr:r<8)(hreg:reg x1=(r:Int))(hs:s<8)(hreg2:reg x2=(s:Int))(ht:t<8)(hreg3:reg x3=(t:Int)):
  qC 55 #[.pointer (some ⟨b,0,none⟩)] w (zbm w b g cap2 L (exec (.alu 2 r s t) next m)):=by
 exact S.does (fun n=>zbw (w.drewN n) b wb wc 3 [⟨#[109,117,108]⟩,x1,x2,x3] next rfl (by decide) (S.words.drewN n) (by kernel_rfl) (by kernel_rfl) (by kernel_rfl) (by kernel_rfl) (by kernel_rfl) (by kernel_rfl))
  (fun n=>zvR (w.drewN n) b wb wc r s t _ bv iv ov m x1 x2 x3 (S.ref.mem.drewN n) (S.words.drewN n) S.apart hr hreg hs hreg2 ht hreg3 (S.sizes x1 (by simp)) (S.sizes x2 (by simp)) (S.sizes x3 (by simp))) S.fin rfl rfl rfl rfl
theorem zzs{w:World}{b wb wc g cap2 k:Nat}{L:List Said}{m:Mc}{bv iv ov:Value}{next:Int}{x1 x2:ByteArray}(S:RStep w b wb wc g cap2 k L m bv iv ov [⟨#[105,110,99]⟩,x1,x2] next)(r:Nat)(hr:r<8)(hreg:reg x1=(r:Int)):
  qC 55 #[.pointer (some ⟨b,0,none⟩)] w (zbm w b g cap2 L (exec (.inc r (zaI x2).1) next m)):=by
 exact S.does (fun n=>zbw (w.drewN n) b wb wc 2 [⟨#[105,110,99]⟩,x1,x2] next rfl (by decide) (S.words.drewN n) (by kernel_rfl) (by kernel_rfl) (by kernel_rfl) (by kernel_rfl) (by kernel_rfl) (by kernel_rfl))
  (fun n=>zv7 (w.drewN n) b wb wc r _ bv iv ov m x1 x2 (S.ref.mem.drewN n) (S.words.drewN n) S.apart hr hreg (S.sizes x1 (by simp)) (S.sizes x2 (by simp))) S.fin rfl rfl rfl rfl
theorem zxU{w:World}{b wb wc g cap2 k:Nat}{L:List Said}{m:Mc}{bv iv ov:Value}{next:Int}{x1 x2:ByteArray}(S:RStep w b wb wc g cap2 k L m bv iv ov [⟨#[108,111,97,100]⟩,x1,x2] next)(r s:Nat)(hr:r<8)(hreg:reg x1=(r:Int))(hs:s<8)(hreg2:reg x2=(s:Int)):
  qC 55 #[.pointer (some ⟨b,0,none⟩)] w (zbm w b g cap2 L (exec (.load r s) next m)):=by
 by_cases a:m.regs s<0∨15<m.regs s
 ·rw [show exec (.load r s) next m={ m with fin:=3 } by simp only [exec];rw [if_pos a]];exact S.stuck (fun n=>zbw (w.drewN n) b wb wc 2 [⟨#[108,111,97,100]⟩,x1,x2] next rfl (by decide) (S.words.drewN n) (by kernel_rfl) (by kernel_rfl) (by kernel_rfl) (by kernel_rfl) (by kernel_rfl) (by kernel_rfl))
   (fun n=>zks (w.drewN n) b wb wc r s _ bv iv ov m x1 x2 (S.ref.mem.drewN n) (S.words.drewN n) S.apart hr hreg hs hreg2 a (S.sizes x1 (by simp)) (S.sizes x2 (by simp))) rfl rfl rfl rfl
 ·rw [show exec (.load r s) next m={ m with regs:=upd m.regs r (m.cells (m.regs s).toNat) }.goes next by simp only [exec];rw [if_neg a]];have c:m.regs s=((m.regs s).toNat:Int):=by omega
  exact S.does (fun n=>zbw (w.drewN n) b wb wc 2 [⟨#[108,111,97,100]⟩,x1,x2] next rfl (by decide) (S.words.drewN n) (by kernel_rfl) (by kernel_rfl) (by kernel_rfl) (by kernel_rfl) (by kernel_rfl) (by kernel_rfl))
   (fun n=>zlj (w.drewN n) b wb wc r s (m.regs s).toNat _ bv iv ov m x1 x2 (S.ref.mem.drewN n) (S.words.drewN n) S.apart hr hreg hs hreg2 c (by omega) (S.sizes x1 (by simp)) (S.sizes x2 (by simp))) S.fin rfl rfl rfl rfl
theorem zvS{w:World}{b wb wc g cap2 k:Nat}{L:List Said}{m:Mc}{bv iv ov:Value}{next:Int}{x1 x2:ByteArray}(S:RStep w b wb wc g cap2 k L m bv iv ov [⟨#[115,116,111,114,101]⟩,x1,x2] next)(r s:Nat)(hr:r<8)(hreg:reg x1=(r:Int))(hs:s<8)(hreg2:reg x2=(s:Int)):
  qC 55 #[.pointer (some ⟨b,0,none⟩)] w (zbm w b g cap2 L (exec (.store r s) next m)):=by
 by_cases a:m.regs r<0∨15<m.regs r
 ·rw [show exec (.store r s) next m={ m with fin:=3 } by simp only [exec];rw [if_pos a]];exact S.stuck (fun n=>zbw (w.drewN n) b wb wc 2 [⟨#[115,116,111,114,101]⟩,x1,x2] next rfl (by decide) (S.words.drewN n) (by kernel_rfl) (by kernel_rfl) (by kernel_rfl) (by kernel_rfl) (by kernel_rfl) (by kernel_rfl))
   (fun n=>zjf (w.drewN n) b wb wc r _ bv iv ov m x1 x2 (S.ref.mem.drewN n) (S.words.drewN n) S.apart hr hreg a (S.sizes x1 (by simp)) (S.sizes x2 (by simp))) rfl rfl rfl rfl
 ·rw [show exec (.store r s) next m={ m with cells:=upd m.cells (m.regs r).toNat (m.regs s) }.goes next by simp only [exec];rw [if_neg a]];have c:m.regs r=((m.regs r).toNat:Int):=by omega
  exact S.does (fun n=>zbw (w.drewN n) b wb wc 2 [⟨#[115,116,111,114,101]⟩,x1,x2] next rfl (by decide) (S.words.drewN n) (by kernel_rfl) (by kernel_rfl) (by kernel_rfl) (by kernel_rfl) (by kernel_rfl) (by kernel_rfl))
   (fun n=>zkt (w.drewN n) b wb wc r s (m.regs r).toNat _ bv iv ov m x1 x2 (S.ref.mem.drewN n) (S.words.drewN n) S.apart hr hreg hs hreg2 c (by omega) (S.sizes x1 (by simp)) (S.sizes x2 (by simp))) S.fin rfl rfl rfl rfl
theorem zxV{w:World}{b wb wc g cap2 k:Nat}{L:List Said}{m:Mc}{bv iv ov:Value}{next:Int}{x:ByteArray}(S:RStep w b wb wc g cap2 k L m bv iv ov [⟨#[106,117,109,112]⟩,x] next)(j:Nat)(hlab:zcj L k x=(j:Int))(hj:j≤L.length):
  qC 55 #[.pointer (some ⟨b,0,none⟩)] w (zbm w b g cap2 L (exec (.jump (zad L j)) next m)):=by
 exact S.moves (m1:=m) (zad L j) 0 (fun n=>(zqu (w.drewN n) b wb wc g cap2 k bv iv ov L m x next j (S.ref.mem.drewN n) (S.lines.drewN n) S.few S.lt S.at_ (S.words.drewN n) hlab hj).mono (by
  rintro e w' ⟨a,q,rfl⟩;exact⟨a,(S.ref.mem.drewN n).drewN q,⟨rfl,rfl,rfl,Nat.le_refl _,fun _ _ _=>rfl⟩⟩)) S.fin (.inl rfl) rfl rfl rfl rfl
theorem zxW{w:World}{b wb wc g cap2 k:Nat}{L:List Said}{m:Mc}{bv iv ov:Value}{next:Int}{x1 x2 x3:ByteArray}(S:RStep w b wb wc g cap2 k L m bv iv ov [⟨#[108,101,115,115]⟩,x1,x2,x3] next)(r s j:Nat)(hr:r<8)(hreg:reg x1=(r:Int))(hs:s<8)(hreg2:reg x2=(s:Int))(hlab:zcj L k x3=(j:Int))(hj:j≤L.length):
  qC 55 #[.pointer (some ⟨b,0,none⟩)] w (zbm w b g cap2 L (exec (.less r s (zad L j)) next m)):=by
 by_cases a:m.regs r<m.regs s
 ·rw [show exec (.less r s (zad L j)) next m=m.goes (zad L j) by simp only [exec];rw [if_pos a]];exact S.moves (m1:=m) (zad L j) 0 (fun n=>(zjl (w.drewN n) b wb wc g cap2 k bv iv ov L m x1 x2 x3 next j r s (S.ref.mem.drewN n) (S.lines.drewN n) S.few S.lt S.at_ (S.words.drewN n) hlab hj hr hreg hs hreg2 (S.sizes x1 (by simp)) (S.sizes x2 (by simp)) a).mono (by
   rintro e d ⟨c,q,rfl⟩;exact⟨c,(S.ref.mem.drewN n).drewN q,⟨rfl,rfl,rfl,Nat.le_refl _,fun _ _ _=>rfl⟩⟩)) S.fin (.inl rfl) rfl rfl rfl rfl
 ·rw [show exec (.less r s (zad L j)) next m=m.goes next by simp only [exec];rw [if_neg a]];exact S.moves (m1:=m) next 0 (fun n=>(zk4 (w.drewN n) b wb wc g cap2 k bv iv ov L m x1 x2 x3 next j r s (S.ref.mem.drewN n) (S.lines.drewN n) S.few S.lt S.at_ (S.words.drewN n) hlab hj hr hreg hs hreg2 (S.sizes x1 (by simp)) (S.sizes x2 (by simp)) a).mono (by
   rintro e d ⟨c,q,rfl⟩;exact⟨c,(S.ref.mem.drewN n).drewN q,⟨rfl,rfl,rfl,Nat.le_refl _,fun _ _ _=>rfl⟩⟩)) S.fin (.inl rfl) rfl rfl rfl rfl
theorem zxX{w:World}{b wb wc g cap2 k:Nat}{L:List Said}{m:Mc}{bv iv ov:Value}{next:Int}{x1 x2 x3:ByteArray}(S:RStep w b wb wc g cap2 k L m bv iv ov [⟨#[115,97,109,101]⟩,x1,x2,x3] next)(r s j:Nat)(hr:r<8)(hreg:reg x1=(r:Int))(hs:s<8)(hreg2:reg x2=(s:Int))(hlab:zcj L k x3=(j:Int))(hj:j≤L.length):
  qC 55 #[.pointer (some ⟨b,0,none⟩)] w (zbm w b g cap2 L (exec (.same r s (zad L j)) next m)):=by
 by_cases a:m.regs r=m.regs s
 ·rw [show exec (.same r s (zad L j)) next m=m.goes (zad L j) by simp only [exec];rw [if_pos a]];exact S.moves (m1:=m) (zad L j) 0 (fun n=>(zjm (w.drewN n) b wb wc g cap2 k bv iv ov L m x1 x2 x3 next j r s (S.ref.mem.drewN n) (S.lines.drewN n) S.few S.lt S.at_ (S.words.drewN n) hlab hj hr hreg hs hreg2 (S.sizes x1 (by simp)) (S.sizes x2 (by simp)) a).mono (by
   rintro e d ⟨c,q,rfl⟩;exact⟨c,(S.ref.mem.drewN n).drewN q,⟨rfl,rfl,rfl,Nat.le_refl _,fun _ _ _=>rfl⟩⟩)) S.fin (.inl rfl) rfl rfl rfl rfl
 ·rw [show exec (.same r s (zad L j)) next m=m.goes next by simp only [exec];rw [if_neg a]];exact S.moves (m1:=m) next 0 (fun n=>(zk5 (w.drewN n) b wb wc g cap2 k bv iv ov L m x1 x2 x3 next j r s (S.ref.mem.drewN n) (S.lines.drewN n) S.few S.lt S.at_ (S.words.drewN n) hlab hj hr hreg hs hreg2 (S.sizes x1 (by simp)) (S.sizes x2 (by simp)) a).mono (by
   rintro e d ⟨c,q,rfl⟩;exact⟨c,(S.ref.mem.drewN n).drewN q,⟨rfl,rfl,rfl,Nat.le_refl _,fun _ _ _=>rfl⟩⟩)) S.fin (.inl rfl) rfl rfl rfl rfl
theorem zxY{w:World}{b wb wc g cap2 k:Nat}{L:List Said}{m:Mc}{bv iv ov:Value}{next:Int}(S:RStep w b wb wc g cap2 k L m bv iv ov [⟨#[115,116,111,112]⟩] next)  :
  qC 55 #[.pointer (some ⟨b,0,none⟩)] w (zbm w b g cap2 L (exec .stop next m)):=by
 exact S.moves (m1:={ m with fin:=1 }) (-1) 1 (fun n=>zqv (w.drewN n) b wb wc _ bv iv ov m next (S.ref.mem.drewN n) (S.words.drewN n)) rfl (.inr (.inl rfl)) rfl rfl rfl rfl
theorem zfv{P:Program}{o:Oper}{a:Act}{W:World}{K:Act→Prop}(ty:TypeId)(x:Operand)(ho:o.op=.load ty x)(b f:Nat)(hx:a.eval x=.pointer (some ⟨b,f,none⟩))(cs:List Value)(d:TypeDesc)(hc:W.rangeAt b f cs)
  (hu:P.underlying ty=some d) (hd:d.isRow=true) (hi:(P.info? ty).map (·.size)=some cs.length) (h:K (a.put o.dst (.agg cs.toArray))):o.quiet P a (fun w'=>∃ k,w'=W.drewN k) K:=by
 refine⟨_,fun w hw=>?_,h⟩;obtain⟨k,rfl⟩:=hw;have c:(W.drewN k).rangeAt b f cs:=hc;unfold Oper.quietAt execOp;simp only [ho,hx,Instr.loadAt,Instr.sureAddr,Sem.run_bind,Sem.run_pure,Result.andThen_ok,run_loadVar_mid _ b f ty cs d c hu hd hi];exact⟨rfl,rfl⟩
theorem zee(w:World)(ds:List Value)(t:TypeId):(w.alloc (.cells ds.toArray t)).rangeAt w.heap.size 0 ds:=by
 intro j v a;rw [Nat.zero_add,World.cell?_alloc_new (w:=w) ds.toArray t j,List.getElem?_toArray];exact a
theorem znA{w:World}{b o:Nat}{cs:List Value}(h:w.rangeAt b o cs)(x:Obj)(hb:b<w.heap.size):(w.alloc x).rangeAt b o cs:=by
 intro j v a;rw [←h j v a];exact World.cell?_alloc_lt w _ _ hb
theorem SlN.alloc{w:World}{v:Value}{l:List Int}(h:SlN w v l)(x:Obj):SlN (w.alloc x) v l:=by
 obtain⟨d,a,b,f⟩:=h;refine⟨d,a,b,fun hp=>?_⟩;obtain⟨g,o,e,c⟩:=f hp;exact⟨g,o,e,fun j hj=>by rw [World.cell?_alloc_some w _ x (by rw [c j hj];rfl)];exact c j hj⟩
theorem Tryz.info31:(Tryz.prog.info? 31).map (·.size)=some 8:=by kernel_rfl
theorem Tryz.info32:(Tryz.prog.info? 32).map (·.size)=some 16:=by kernel_rfl
theorem zzx(x0 x1 x2 x3 x4 x5 x6 x7:Int)(w:World):(Op.equalIn 10000 31 (.agg #[.int .i64 x0,.int .i64 x1,.int .i64 x2,.int .i64 x3,.int .i64 x4,.int .i64 x5,.int .i64 x6,.int .i64 x7]) (.agg #[.int .i64 x0,.int .i64 x1,.int .i64 x2,.int .i64 x3,.int .i64 x4,.int .i64 x5,.int .i64 x6,.int .i64 x7])).run Tryz.prog w=.ok true w:=by
 have u2:=Tryz.underlying2;have a2:=Tryz.isAgg2;have z2:=Tryz.sizeOf2;rw [show(10000:Nat)=9999+1 from rfl,Op.equalIn];simp only [Sem.run_bind,run_underlying Tryz.underlying31,Result.andThen_ok];simp only [Std.Legacy.Range.forIn_eq_forIn_range',Std.Legacy.Range.size,Nat.sub_zero,Nat.add_sub_cancel,Nat.div_one,List.range'_succ,List.range'_zero,List.forIn_cons,List.forIn_nil];go_simp
theorem zzy(x0 x1 x2 x3 x4 x5 x6 x7 x8 x9 x10 x11 x12 x13 x14 x15:Int)(w:World):(Op.equalIn 10000 32 (.agg #[.int .i64 x0,.int .i64 x1,.int .i64 x2,.int .i64 x3,.int .i64 x4,.int .i64 x5,.int .i64 x6,.int .i64 x7,.int .i64 x8,.int .i64 x9,.int .i64 x10,.int .i64 x11,.int .i64 x12,.int .i64 x13,.int .i64 x14,.int .i64 x15]) (.agg #[.int .i64 x0,.int .i64 x1,.int .i64 x2,.int .i64 x3,.int .i64 x4,.int .i64 x5,.int .i64 x6,.int .i64 x7,.int .i64 x8,.int .i64 x9,.int .i64 x10,.int .i64 x11,.int .i64 x12,.int .i64 x13,.int .i64 x14,.int .i64 x15])).run Tryz.prog w=.ok true w:=by
 have u2:=Tryz.underlying2;have a2:=Tryz.isAgg2;have z2:=Tryz.sizeOf2;rw [show(10000:Nat)=9999+1 from rfl,Op.equalIn];simp only [Sem.run_bind,run_underlying Tryz.underlying32,Result.andThen_ok];simp only [Std.Legacy.Range.forIn_eq_forIn_range',Std.Legacy.Range.size,Nat.sub_zero,Nat.add_sub_cancel,Nat.div_one,List.range'_succ,List.range'_zero,List.forIn_cons,List.forIn_nil];go_simp
structure StAt(w:World)(b:Nat)(m:Mc)(ov:Value)(line:Int):Prop where
 cS:w.cell? ⟨b,0,none⟩=some (.int .i64 m.steps)
 cR:w.rangeAt b 1 ((List.range 8).map (fun i=>Value.int .i64 (m.regs i)))
 cC:w.rangeAt b 9 ((List.range 16).map (fun i=>Value.int .i64 (m.cells i)))
 cO:w.cell? ⟨b,25,none⟩=some ov
 cF:w.cell? ⟨b,26,none⟩=some (.int .i64 m.frames)
 cP:w.cell? ⟨b,27,none⟩=some (.int .i64 m.peak)
 cA:w.cell? ⟨b,28,none⟩=some (.int .i64 line)
 cE:w.cell? ⟨b,29,none⟩=some (.int .i64 m.fin)
theorem StAt.of_range{w:World}{b:Nat}{m:Mc}{ov:Value}{line:Int}(h:w.rangeAt b 0 (zan m ov line)):StAt w b m ov line:=by
 have a:∀ j v,(zan m ov line)[j]?=some v→w.cell? ⟨b,j,none⟩=some v:=fun j v hv=>by have:=h j v hv;rwa [Nat.zero_add] at this
 refine⟨a 0 _ (by simp [zan]),fun j v hv=>?_,fun j v hv=>?_,a 25 _ (by simp [zan]),a 26 _ (by simp [zan]),a 27 _ (by simp [zan]),a 28 _ (by simp [zan]),a 29 _ (by simp [zan])⟩
 ·have c:=(List.getElem?_eq_some_iff.1 hv).1;simp at c;refine a (1+j) v ?_;rw [←hv];unfold zan;rw [List.getElem?_append_right (by simp),List.getElem?_append_left (by simp;omega)];simp
 ·have c:=(List.getElem?_eq_some_iff.1 hv).1;simp at c;refine a (9+j) v ?_;rw [←hv];unfold zan;rw [List.getElem?_append_right (by simp;omega),List.getElem?_append_right (by simp),List.getElem?_append_left (by simp;omega)];simp
theorem zgI(w:World)(m:Mc)(oa ob:Option Addr)(na nb ca cb:Nat)(line:Int)(ha:SlN w (.slice oa na ca) m.out)(hb:SlN w (.slice ob nb cb) m.out)(hn:m.out.length≤1048577):
  qC 21 #[.agg (zan m (.slice oa na ca) line).toArray,.agg (zan m (.slice ob nb cb) line).toArray] w (qR w (.bool true)):=by
 generalize r:zan m (.slice oa na ca) line=A;generalize o:zan m (.slice ob nb cb) line=B;have hu31:Tryz.prog.underlying 31=some (.array _ _):=Tryz.underlying31;have hu32:Tryz.prog.underlying 32=some (.array _ _):=Tryz.underlying32;go_enter Tryz.func21,Tryz.ntmps21;go_wp2_with(first|(refine Go.Great.wpList_boxTo rfl 34 _ rfl _ rfl w.heap.size rfl A.toArray rfl ?_)|(refine Go.Great.wpList_boxTo rfl 34 _ rfl _ rfl (w.heap.size+1) (by simp) B.toArray rfl ?_;refine Hid.out ?_))
 unfold Hid;have l:((w.alloc (.cells A.toArray 34)).alloc (.cells B.toArray 34)).rangeAt w.heap.size 0 A:=znA (zee w A 34) _ (by simp);have k:((w.alloc (.cells A.toArray 34)).alloc (.cells B.toArray 34)).rangeAt (w.heap.size+1) 0 B:=by
  have:=zee (w.alloc (.cells A.toArray 34)) B 34;rwa [show(w.alloc (.cells A.toArray 34)).heap.size=w.heap.size+1 by simp] at this
 have c:qB w ((w.alloc (.cells A.toArray 34)).alloc (.cells B.toArray 34)):=((Below.refl _ _).alloc (Nat.le_refl _) _).alloc (by simp) _;have j:=SlN.alloc (SlN.alloc ha (.cells A.toArray 34)) (.cells B.toArray 34);have g:=SlN.alloc (SlN.alloc hb (.cells A.toArray 34)) (.cells B.toArray 34);generalize ((w.alloc (.cells A.toArray 34)).alloc (.cells B.toArray 34))=W at l k c j g ⊢;rw [←r] at l;rw [←o] at k;obtain⟨a1,t,p,a4,a5,a6,a7,a8⟩:=StAt.of_range l;obtain⟨b1,q,s,b4,b5,b6,b7,b8⟩:=StAt.of_range k;clear l k r o;have h:=zdK W _ _ _ j g hn;have f:∀ i,i<8→W.cell? ⟨w.heap.size,1+i,none⟩=some (.int .i64 (m.regs i)):=fun i hi=>t i _ (by simp [hi]);have d:∀ i,i<8→W.cell? ⟨w.heap.size+1,1+i,none⟩=some (.int .i64 (m.regs i)):=fun i hi=>q i _ (by simp [hi]);have a:∀ i,i<16→W.cell? ⟨w.heap.size,9+i,none⟩=some (.int .i64 (m.cells i)):=fun i hi=>p i _ (by simp [hi]);have b:∀ i,i<16→W.cell? ⟨w.heap.size+1,9+i,none⟩=some (.int .i64 (m.cells i)):=fun i hi=>s i _ (by simp [hi]);have wa0:W.cell? ⟨w.heap.size,1,none⟩=some (.int .i64 (m.regs 0)):=f 0 (by omega);have wb0:W.cell? ⟨w.heap.size+1,1,none⟩=some (.int .i64 (m.regs 0)):=d 0 (by omega);have wa1:W.cell? ⟨w.heap.size,2,none⟩=some (.int .i64 (m.regs 1)):=f 1 (by omega);have wb1:W.cell? ⟨w.heap.size+1,2,none⟩=some (.int .i64 (m.regs 1)):=d 1 (by omega);have wa2:W.cell? ⟨w.heap.size,3,none⟩=some (.int .i64 (m.regs 2)):=f 2 (by omega);have wb2:W.cell? ⟨w.heap.size+1,3,none⟩=some (.int .i64 (m.regs 2)):=d 2 (by omega);have wa3:W.cell? ⟨w.heap.size,4,none⟩=some (.int .i64 (m.regs 3)):=f 3 (by omega);have wb3:W.cell? ⟨w.heap.size+1,4,none⟩=some (.int .i64 (m.regs 3)):=d 3 (by omega);have wa4:W.cell? ⟨w.heap.size,5,none⟩=some (.int .i64 (m.regs 4)):=f 4 (by omega);have wb4:W.cell? ⟨w.heap.size+1,5,none⟩=some (.int .i64 (m.regs 4)):=d 4 (by omega);have wa5:W.cell? ⟨w.heap.size,6,none⟩=some (.int .i64 (m.regs 5)):=f 5 (by omega);have wb5:W.cell? ⟨w.heap.size+1,6,none⟩=some (.int .i64 (m.regs 5)):=d 5 (by omega);have wa6:W.cell? ⟨w.heap.size,7,none⟩=some (.int .i64 (m.regs 6)):=f 6 (by omega);have wb6:W.cell? ⟨w.heap.size+1,7,none⟩=some (.int .i64 (m.regs 6)):=d 6 (by omega);have wa7:W.cell? ⟨w.heap.size,8,none⟩=some (.int .i64 (m.regs 7)):=f 7 (by omega);have wb7:W.cell? ⟨w.heap.size+1,8,none⟩=some (.int .i64 (m.regs 7)):=d 7 (by omega);have xa0:W.cell? ⟨w.heap.size,9,none⟩=some (.int .i64 (m.cells 0)):=a 0 (by omega);have xb0:W.cell? ⟨w.heap.size+1,9,none⟩=some (.int .i64 (m.cells 0)):=b 0 (by omega);have xa1:W.cell? ⟨w.heap.size,10,none⟩=some (.int .i64 (m.cells 1)):=a 1 (by omega);have xb1:W.cell? ⟨w.heap.size+1,10,none⟩=some (.int .i64 (m.cells 1)):=b 1 (by omega);have xa2:W.cell? ⟨w.heap.size,11,none⟩=some (.int .i64 (m.cells 2)):=a 2 (by omega);have xb2:W.cell? ⟨w.heap.size+1,11,none⟩=some (.int .i64 (m.cells 2)):=b 2 (by omega);have xa3:W.cell? ⟨w.heap.size,12,none⟩=some (.int .i64 (m.cells 3)):=a 3 (by omega);have xb3:W.cell? ⟨w.heap.size+1,12,none⟩=some (.int .i64 (m.cells 3)):=b 3 (by omega);have xa4:W.cell? ⟨w.heap.size,13,none⟩=some (.int .i64 (m.cells 4)):=a 4 (by omega);have xb4:W.cell? ⟨w.heap.size+1,13,none⟩=some (.int .i64 (m.cells 4)):=b 4 (by omega);have xa5:W.cell? ⟨w.heap.size,14,none⟩=some (.int .i64 (m.cells 5)):=a 5 (by omega);have xb5:W.cell? ⟨w.heap.size+1,14,none⟩=some (.int .i64 (m.cells 5)):=b 5 (by omega);have xa6:W.cell? ⟨w.heap.size,15,none⟩=some (.int .i64 (m.cells 6)):=a 6 (by omega);have xb6:W.cell? ⟨w.heap.size+1,15,none⟩=some (.int .i64 (m.cells 6)):=b 6 (by omega);have xa7:W.cell? ⟨w.heap.size,16,none⟩=some (.int .i64 (m.cells 7)):=a 7 (by omega);have xb7:W.cell? ⟨w.heap.size+1,16,none⟩=some (.int .i64 (m.cells 7)):=b 7 (by omega);have xa8:W.cell? ⟨w.heap.size,17,none⟩=some (.int .i64 (m.cells 8)):=a 8 (by omega);have xb8:W.cell? ⟨w.heap.size+1,17,none⟩=some (.int .i64 (m.cells 8)):=b 8 (by omega);have xa9:W.cell? ⟨w.heap.size,18,none⟩=some (.int .i64 (m.cells 9)):=a 9 (by omega);have xb9:W.cell? ⟨w.heap.size+1,18,none⟩=some (.int .i64 (m.cells 9)):=b 9 (by omega);have xa10:W.cell? ⟨w.heap.size,19,none⟩=some (.int .i64 (m.cells 10)):=a 10 (by omega);have xb10:W.cell? ⟨w.heap.size+1,19,none⟩=some (.int .i64 (m.cells 10)):=b 10 (by omega);have xa11:W.cell? ⟨w.heap.size,20,none⟩=some (.int .i64 (m.cells 11)):=a 11 (by omega);have xb11:W.cell? ⟨w.heap.size+1,20,none⟩=some (.int .i64 (m.cells 11)):=b 11 (by omega);have xa12:W.cell? ⟨w.heap.size,21,none⟩=some (.int .i64 (m.cells 12)):=a 12 (by omega);have xb12:W.cell? ⟨w.heap.size+1,21,none⟩=some (.int .i64 (m.cells 12)):=b 12 (by omega);have xa13:W.cell? ⟨w.heap.size,22,none⟩=some (.int .i64 (m.cells 13)):=a 13 (by omega);have xb13:W.cell? ⟨w.heap.size+1,22,none⟩=some (.int .i64 (m.cells 13)):=b 13 (by omega);have xa14:W.cell? ⟨w.heap.size,23,none⟩=some (.int .i64 (m.cells 14)):=a 14 (by omega);have xb14:W.cell? ⟨w.heap.size+1,23,none⟩=some (.int .i64 (m.cells 14)):=b 14 (by omega);have xa15:W.cell? ⟨w.heap.size,24,none⟩=some (.int .i64 (m.cells 15)):=a 15 (by omega);have xb15:W.cell? ⟨w.heap.size+1,24,none⟩=some (.int .i64 (m.cells 15)):=b 15 (by omega);have e31:=fun w=>zzx (m.regs 0) (m.regs 1) (m.regs 2) (m.regs 3) (m.regs 4) (m.regs 5) (m.regs 6) (m.regs 7) w;have e32:=fun w=>zzy (m.cells 0) (m.cells 1) (m.cells 2) (m.cells 3) (m.cells 4) (m.cells 5) (m.cells 6) (m.cells 7) (m.cells 8) (m.cells 9) (m.cells 10) (m.cells 11) (m.cells 12) (m.cells 13) (m.cells 14) (m.cells 15) w;clear f d a b t p q s ha hb j g;generalize m.regs 0=r0 at *;generalize m.regs 1=l at *;generalize m.regs 2=k at *;generalize m.regs 3=r3 at *;generalize m.regs 4=r4 at *;generalize m.regs 5=r5 at *;generalize m.regs 6=r6 at *;generalize m.regs 7=r7 at *;generalize m.cells 0=c0 at *;generalize m.cells 1=c1 at *;generalize m.cells 2=c2 at *;generalize m.cells 3=c3 at *;generalize m.cells 4=c4 at *;generalize m.cells 5=c5 at *;generalize m.cells 6=c6 at *;generalize m.cells 7=c7 at *;generalize m.cells 8=c8 at *;generalize m.cells 9=c9 at *;generalize m.cells 10=c10 at *;generalize m.cells 11=c11 at *;generalize m.cells 12=c12 at *;generalize m.cells 13=c13 at *;generalize m.cells 14=c14 at *;generalize m.cells 15=c15 at *;go_wp2_with(first|(go_at_call 19;refine h.mono ?_;rintro e w2 ⟨rfl,n,rfl⟩))
 go_ret;exact⟨rfl,c.trans ((zaF W n).mono c.size)⟩
end Go.Proofs.YtfpgjkbjbbgciaaGreatDoor
