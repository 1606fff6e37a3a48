import Derived.Test.YtfpgjkbjbbgciaaGreatDoorMj13
import Derived.Test.YtfpgjkbjbbgciaaGreatDoorMj16
set_option maxRecDepth 100000
set_option maxHeartbeats 8000000
namespace Go.Proofs.YtfpgjkbjbbgciaaGreatDoor
open Go.RowKit Sp
theorem zik(w:World)(a:Value):∀ j u,[a][j]?=some u→(w.alloc (.cells #[a] 3)).cell? ((⟨w.heap.size,0,none⟩:Addr).add j)=some u:=by
 intro j u b;have c:=World.cell?_alloc_new (w:=w) #[a] 3 j;have h2:(⟨w.heap.size,0,none⟩:Addr).add j=⟨w.heap.size,j,none⟩:=by simp [Addr.add];omega
 rw [h2,c];rw [←List.getElem?_toArray] at b;exact b
theorem zk0(w:World)(b wb cap g cap2 B f p:Nat)(bv iv ov:Value)(L:List Said)(m:Mc)(x:ByteArray)(next:Int)(j:Nat)(h:RefM w b (.slice (some ⟨g,0,none⟩) L.length cap2) bv iv ov m)(hL:∀ W,Below b w W→LinesIn W g L)(hn:L.length≤300)(hw:WdIn w wb [⟨#[99,97,108,108]⟩,x])(hfn:zaN L x 0=(j:Int))(hj:j<L.length)
  (hf:m.frames=(f:Int)) (hf1:f<16) (hp:m.peak=(p:Int)) (_hp1:p≤16) (hcmp:p≤f) (hown:w.ownsRow B 3 1 bv m.backs.length (i64s m.backs)) (hno:bv.ownBlock≠some b) (hB:B≤w.heap.size) (hBb:b<B) (hlen:m.backs.length≤16) :
  qC 89 #[.pointer (some ⟨b,0,none⟩),.slice (some ⟨wb,0,none⟩) 2 cap,.int .i64 next] w fun e w'=>e=.returned (.tuple #[.int .i64 (zad L (j+1)),.bool true]) ∧
   ∃ gb c w4,RefM w' b (.slice (some ⟨g,0,none⟩) L.length cap2) (.slice (some ⟨gb,0,none⟩) (m.backs.length+1) c) iv ov { m with backs:=m.backs++[next],frames:=(f:Int)+1,peak:=(f:Int)+1 }∧w4.ownsRow B 3 1 (.slice (some ⟨gb,0,none⟩) (m.backs.length+1) c) (m.backs.length+1) (i64s (m.backs++[next]))∧w.grownBy w4 bv.ownBlock∧w4.grownBy w' (some b):=by
 have P:=hw 0 (by simp);have N:=hw 1 (by simp);simp only [List.getElem_cons_zero,List.getElem_cons_succ] at P N;have O:=h.lt;have d:=h.cF;rw [hf] at d;have s:=h.cB;have y:=h.fz 2;have hf16:((f:Int) == 16)=false:=by simp;omega
 obtain⟨S,G,J,I,F⟩:=info_parts Tryz.info3;have t:some b≠bv.ownBlock:=fun e=>hno e.symm;have hne4:¬w.heap.size=b:=by omega
 have hne5:¬b=w.heap.size:=by omega
 have R:Hid (LinesIn w g L):=hL w (Below.refl _ _);go_enter Tryz.func89,Tryz.ntmps89;go_wp2_with(first
  | (at_builtin;refine wpList_append_own _ rfl _ _ 59 rfl B 3 S (.int .i64 0) 1 8 Tryz.under59 G J I F rfl (by decide) _ _ _ rfl (hown.alloc _) ⟨w.heap.size,0,none⟩ 1 1 [.int .i64 next] rfl rfl (zik _ _) (by simp [Value.oneCell']) (by unfold maxLen;omega) (by omega) (by simp;omega) ?_))
 intro v' w4 l k _;obtain⟨gb,c,rfl,hgb,hgl⟩:=l.form (by omega);have z:w4.cell? ⟨b,2,none⟩=some bv:=(k.cell_far _ (by simp;omega) t).trans ((World.cell?_alloc_lt w _ _ O).trans s);have A:RefM w4 b (.slice (some ⟨g,0,none⟩) L.length cap2) bv iv ov m:=h.of_block ((k.block b (by simp;omega) t).trans (Below.heap_alloc _ _ _ O));have u:w.grownBy w4 bv.ownBlock:=(World.grownBy_alloc w _ _).trans k;have D:Below b w w4:=(Below.refl b w).grown u (by omega) (fun q hq=>by have:=(hown.lt q hq).1;omega);clear s d z P N y;have s:=A.cB;have y:=A.fz 2;have d:=A.cF;rw [hf] at d;have M:=A.fz 30;go_wp2_with fail
 have o:=(A.setB (.slice (some ⟨gb,0,none⟩) (m.backs.length+1) c) (m.backs++[next])).setF ((f:Int)+1);have i:w4.grownBy ((w4.setCell ⟨b,2,none⟩ (.slice (some ⟨gb,0,none⟩) (m.backs.length+1) c)).setCell ⟨b,30,none⟩ (.int .i64 ((f:Int)+1))) (some b):=zae (zac (Below.refl _ _)) (zac (Below.refl _ _));clear s y d M;generalize (w4.setCell ⟨b,2,none⟩ (.slice (some ⟨gb,0,none⟩) (m.backs.length+1) c)).setCell ⟨b,30,none⟩ (.int .i64 ((f:Int)+1))=w6 at o i ⊢;have d:=o.cF;have r:=o.cP;simp only [hp] at d r;have hlt':(p:Int)<(f:Int)+1:=by omega
 go_quiet(fail)
 replace o:=o.drewN nq;replace i:w4.grownBy (w6.drewN nq) (some b):=⟨i.os,i.tape,i.output,i.size,i.block⟩
 clear d r;generalize w6.drewN nq=w7 at o i ⊢;have d:=o.cF;have r:=o.cP;have H:=o.fz 31;go_wp2_with fail
 have E:=o.setP ((f:Int)+1);have a:w4.grownBy (w7.setCell ⟨b,31,none⟩ (.int .i64 ((f:Int)+1))) (some b):=zae i (zac (Below.refl _ _));clear d r H;generalize w7.setCell ⟨b,31,none⟩ (.int .i64 ((f:Int)+1))=w8 at E a ⊢;have K:Below b w w8:=D.trans ((Below.refl b w4).grown a (by have:=D.size;omega) (fun q hq=>by cases hq;exact Nat.le_refl _));have v:=hL w8 K;have T:∀ n,qC 77 #[.slice (some ⟨g,0,none⟩) L.length cap2,.string x] (w8.drewN n) fun e w'=>e=.returned (.int .i64 (j:Int))∧w'=w8.drewN n:=fun n=>by
  rw [←hfn];exact zo9 L g cap2 x _ (v.drewN n) (by omega)
 have Q:∀ n,qC 88 #[.slice (some ⟨g,0,none⟩) L.length cap2,.int .i64 ((j:Int)+1)] (w8.drewN n) fun e w'=>e=.returned (.int .i64 (zad L (j+1)))∧w'=w8.drewN n:=fun n=>by
  have:=zdn L g cap2 (j+1) _ (v.drewN n) (by omega) (by omega);simpa using this
 generalize C:zad L (j+1)=to at Q;have HTO:Hid (zad L (j+1)=to):=C;clear C;clear hfn v hL R;have hcl:=E.cL;go_quiet(first|(go_at_call 77;exact Calls.quiet_of_same (T _))|(go_at_call 88;exact Calls.quiet_of_same (Q _)))
 go_wp2;go_ret2;first
  | exact⟨by rw [HTO.out];rfl,gb,c,E.drewN nq,w4,by simpa [i64s] using l,u,⟨a.os,a.tape,a.output,a.size,a.block⟩⟩
  | exact⟨by rw [HTO.out];rfl,gb,c,w4,E.drewN nq,by simpa [i64s] using l,u,⟨a.os,a.tape,a.output,a.size,a.block⟩⟩
theorem zk1(w:World)(b wb cap g cap2 B f p:Nat)(bv iv ov:Value)(L:List Said)(m:Mc)(x:ByteArray)(next:Int)(j:Nat)(h:RefM w b (.slice (some ⟨g,0,none⟩) L.length cap2) bv iv ov m)(hL:∀ W,Below b w W→LinesIn W g L)(hn:L.length≤300)(hw:WdIn w wb [⟨#[99,97,108,108]⟩,x])(hfn:zaN L x 0=(j:Int))(hj:j<L.length)
  (hf:m.frames=(f:Int)) (hf1:f<16) (hp:m.peak=(p:Int)) (_hp1:p≤16) (hcmp:f+1≤p) (hown:w.ownsRow B 3 1 bv m.backs.length (i64s m.backs)) (hno:bv.ownBlock≠some b) (hB:B≤w.heap.size) (hBb:b<B) (hlen:m.backs.length≤16) :
  qC 89 #[.pointer (some ⟨b,0,none⟩),.slice (some ⟨wb,0,none⟩) 2 cap,.int .i64 next] w fun e w'=>e=.returned (.tuple #[.int .i64 (zad L (j+1)),.bool true]) ∧
   ∃ gb c w4,RefM w' b (.slice (some ⟨g,0,none⟩) L.length cap2) (.slice (some ⟨gb,0,none⟩) (m.backs.length+1) c) iv ov { m with backs:=m.backs++[next],frames:=(f:Int)+1,peak:=m.peak }∧w4.ownsRow B 3 1 (.slice (some ⟨gb,0,none⟩) (m.backs.length+1) c) (m.backs.length+1) (i64s (m.backs++[next]))∧w.grownBy w4 bv.ownBlock∧w4.grownBy w' (some b):=by
 have Q:=hw 0 (by simp);have O:=hw 1 (by simp);simp only [List.getElem_cons_zero,List.getElem_cons_succ] at Q O;have P:=h.lt;have i:=h.cF;rw [hf] at i;have o:=h.cB;have v:=h.fz 2;have hf16:((f:Int) == 16)=false:=by simp;omega
 obtain⟨T,G,I,H,F⟩:=info_parts Tryz.info3;have s:some b≠bv.ownBlock:=fun e=>hno e.symm;have hne4:¬w.heap.size=b:=by omega
 have hne5:¬b=w.heap.size:=by omega
 have S:Hid (LinesIn w g L):=hL w (Below.refl _ _);go_enter Tryz.func89,Tryz.ntmps89;go_wp2_with(first
  | (at_builtin;refine wpList_append_own _ rfl _ _ 59 rfl B 3 T (.int .i64 0) 1 8 Tryz.under59 G I H F rfl (by decide) _ _ _ rfl (hown.alloc _) ⟨w.heap.size,0,none⟩ 1 1 [.int .i64 next] rfl rfl (zik _ _) (by simp [Value.oneCell']) (by unfold maxLen;omega) (by omega) (by simp;omega) ?_))
 intro v' w4 l k _;obtain⟨gb,c,rfl,hgb,hgl⟩:=l.form (by omega);have A:w4.cell? ⟨b,2,none⟩=some bv:=(k.cell_far _ (by simp;omega) s).trans ((World.cell?_alloc_lt w _ _ P).trans o);have C:RefM w4 b (.slice (some ⟨g,0,none⟩) L.length cap2) bv iv ov m:=h.of_block ((k.block b (by simp;omega) s).trans (Below.heap_alloc _ _ _ P));have t:w.grownBy w4 bv.ownBlock:=(World.grownBy_alloc w _ _).trans k;have E:Below b w w4:=(Below.refl b w).grown t (by omega) (fun q hq=>by have:=(hown.lt q hq).1;omega);clear o i A Q O v;have o:=C.cB;have v:=C.fz 2;have i:=C.cF;rw [hf] at i;have M:=C.fz 30;go_wp2_with fail
 have y:=(C.setB (.slice (some ⟨gb,0,none⟩) (m.backs.length+1) c) (m.backs++[next])).setF ((f:Int)+1);have d:w4.grownBy ((w4.setCell ⟨b,2,none⟩ (.slice (some ⟨gb,0,none⟩) (m.backs.length+1) c)).setCell ⟨b,30,none⟩ (.int .i64 ((f:Int)+1))) (some b):=zae (zac (Below.refl _ _)) (zac (Below.refl _ _));clear o v i M;generalize (w4.setCell ⟨b,2,none⟩ (.slice (some ⟨gb,0,none⟩) (m.backs.length+1) c)).setCell ⟨b,30,none⟩ (.int .i64 ((f:Int)+1))=w6 at y d ⊢;have i:=y.cF;have z:=y.cP;simp only [hp] at i z;have hlt':decide ((p:Int)<(f:Int)+1)=false:=by simp;omega
 have hlt2:¬(p:Int)<(f:Int)+1:=by omega
 go_quiet(fail)
 replace y:=y.drewN nq;replace d:w4.grownBy (w6.drewN nq) (some b):=⟨d.os,d.tape,d.output,d.size,d.block⟩
 clear i z;generalize w6.drewN nq=w7 at y d ⊢;go_wp2_with fail
 obtain⟨r,K⟩:∃ r,r=w7:=⟨w7,rfl⟩
 subst K;have N:=y;have a:=d;have J:Below b w r:=E.trans ((Below.refl b w4).grown a (by have:=E.size;omega) (fun q hq=>by cases hq;exact Nat.le_refl _));have u:=hL r J;have U:∀ n,qC 77 #[.slice (some ⟨g,0,none⟩) L.length cap2,.string x] (r.drewN n) fun e w'=>e=.returned (.int .i64 (j:Int))∧w'=r.drewN n:=fun n=>by
  rw [←hfn];exact zo9 L g cap2 x _ (u.drewN n) (by omega)
 have R:∀ n,qC 88 #[.slice (some ⟨g,0,none⟩) L.length cap2,.int .i64 ((j:Int)+1)] (r.drewN n) fun e w'=>e=.returned (.int .i64 (zad L (j+1)))∧w'=r.drewN n:=fun n=>by
  have:=zdn L g cap2 (j+1) _ (u.drewN n) (by omega) (by omega);simpa using this
 generalize D:zad L (j+1)=to at R;have HTO:Hid (zad L (j+1)=to):=D;clear D;clear hfn u hL S;have hcl:=N.cL;go_quiet(first|(go_at_call 77;exact Calls.quiet_of_same (U _))|(go_at_call 88;exact Calls.quiet_of_same (R _)))
 go_wp2;go_ret2;first
  | exact⟨by rw [HTO.out];rfl,gb,c,N.drewN nq,w4,by simpa [i64s] using l,t,⟨a.os,a.tape,a.output,a.size,a.block⟩⟩
  | exact⟨by rw [HTO.out];rfl,gb,c,w4,N.drewN nq,by simpa [i64s] using l,t,⟨a.os,a.tape,a.output,a.size,a.block⟩⟩
theorem MchM.alloc{w:World}{b:Nat}{bv iv ov:Value}{m:Mc}(h:MchM w b bv iv ov m)(x:Obj):MchM (w.alloc x) b bv iv ov m:=h.of_block (Below.heap_alloc _ _ _ h.lt)
theorem zaR{w:World}{b o n:Nat}{x:Obj}{v:Value}:w.grownBy (((w.alloc x).drewN n).setCell ⟨b,o,none⟩ v) (some b) :=
 zae (World.grownBy_alloc w x _) (zaB (n:=n) (zac (Below.refl _ _)))
theorem zyY(w:World)(b:Nat)(bv iv ov:Value)(m:Mc)(r:Nat)(hr:r<8)(k:Int)(h:MchM w b bv iv ov m)(h0:0≤m.steps)(h1:m.steps≤100000)(ha:0≤m.at')(hb:m.at'≤100000):
  qC 223 #[.agg #[.int .i64 (r:Int),.int .i64 k],.pointer (some ⟨b,0,none⟩)] w fun e w'=>e=.returned (.tuple #[])∧MchM w' b bv iv ov (exec (.set r k) (m.at'+1) m)∧w.grownBy w' (some b):=by
 have hl:=h.lt;have a:=h.alloc (.cells #[.int .i64 (r:Int),.int .i64 k] 167);have hcr:=a.cR r hr;have hr0:(0:Int)≤(r:Int):=by omega
 have hr8:(r:Int)<8:=by omega
 have f:=fun n=>(a.drewN n).setR r hr k;have hfz:=a.fz r;have hne4:¬w.heap.size=b:=by omega
 have hne5:¬b=w.heap.size:=by omega
 go_enter Tryz.func223,Tryz.ntmps223;go_wp2_with fail
 refine zao 8 (by kernel_rfl) (by kernel_rfl) ?_;simp only [q2];repeat(go_big_quiet_step (fail))
 refine wpQuiet_nil ?_;rintro _ ⟨c,rfl⟩;go_wp2_with(first|(go_at_call 225;refine(zca _ b bv iv ov _ (f c) h0 h1 ha hb).mono ?_;rintro e w2 ⟨rfl,g,d⟩))
 go_end0
 exact⟨rfl,g,zae zaR d⟩
theorem zyZ(w:World)(b:Nat)(bv iv ov:Value)(m:Mc)(r s:Nat)(hr:r<8)(hs:s<8)(h:MchM w b bv iv ov m)(h0:0≤m.steps)(h1:m.steps≤100000)(ha:0≤m.at')(hb:m.at'≤100000):
  qC 230 #[.agg #[.int .i64 (r:Int),.int .i64 (s:Int)],.pointer (some ⟨b,0,none⟩)] w fun e w'=>e=.returned (.tuple #[])∧MchM w' b bv iv ov (exec (.mov r s) (m.at'+1) m)∧w.grownBy w' (some b):=by
 have hl:=h.lt;have a:=h.alloc (.cells #[.int .i64 (r:Int),.int .i64 (s:Int)] 169);have hcr:=a.cR r hr;have hr0:(0:Int)≤(r:Int):=by omega
 have hr8:(r:Int)<8:=by omega
 have hcs:=a.cR s hs;have hs0:(0:Int)≤(s:Int):=by omega
 have hs8:(s:Int)<8:=by omega
 have f:=fun n=>(a.drewN n).setR r hr (m.regs s);have hfz:=a.fz r;have hne4:¬w.heap.size=b:=by omega
 have hne5:¬b=w.heap.size:=by omega
 go_enter Tryz.func230,Tryz.ntmps230;go_wp2_with fail
 refine zao 13 (by kernel_rfl) (by kernel_rfl) ?_;simp only [q2];repeat(go_big_quiet_step (fail))
 refine wpQuiet_nil ?_;rintro _ ⟨c,rfl⟩;go_wp2_with(first|(go_at_call 225;refine(zca _ b bv iv ov _ (f c) h0 h1 ha hb).mono ?_;rintro e w2 ⟨rfl,g,d⟩))
 go_end0
 exact⟨rfl,g,zae zaR d⟩
theorem zza(w:World)(b:Nat)(bv iv ov:Value)(m:Mc)(r s t:Nat)(hr:r<8)(hs:s<8)(ht:t<8)(h:MchM w b bv iv ov m)(h0:0≤m.steps)(h1:m.steps≤100000)(ha:0≤m.at')(hb:m.at'≤100000):
  qC 232 #[.agg #[.int .i64 (r:Int),.int .i64 (s:Int),.int .i64 (t:Int)],.pointer (some ⟨b,0,none⟩)] w fun e w'=>e=.returned (.tuple #[])∧MchM w' b bv iv ov (exec (.alu 0 r s t) (m.at'+1) m)∧w.grownBy w' (some b):=by
 have hl:=h.lt;have a:=h.alloc (.cells #[.int .i64 (r:Int),.int .i64 (s:Int),.int .i64 (t:Int)] 171);have hcr:=a.cR r hr;have hr0:(0:Int)≤(r:Int):=by omega
 have hr8:(r:Int)<8:=by omega
 have hcs:=a.cR s hs;have hs0:(0:Int)≤(s:Int):=by omega
 have hs8:(s:Int)<8:=by omega
 have hct:=a.cR t ht;have ht0:(0:Int)≤(t:Int):=by omega
 have ht8:(t:Int)<8:=by omega
 have f:=fun n=>(a.drewN n).setR r hr (zby 0 (m.regs s) (m.regs t));have hfz:=a.fz r;have hne4:¬w.heap.size=b:=by omega
 have hne5:¬b=w.heap.size:=by omega
 go_enter Tryz.func232,Tryz.ntmps232;go_wp2_with fail
 refine zao 21 (by kernel_rfl) (by kernel_rfl) ?_;simp only [q2];repeat(go_big_quiet_step (fail))
 refine wpQuiet_nil ?_;rintro _ ⟨c,rfl⟩;rw [zs3];go_wp2_with(first|(go_at_call 225;refine(zca _ b bv iv ov _ (f c) h0 h1 ha hb).mono ?_;rintro e w2 ⟨rfl,g,d⟩))
 go_end0
 exact⟨rfl,g,zae zaR d⟩
theorem zzb(w:World)(b:Nat)(bv iv ov:Value)(m:Mc)(r s t:Nat)(hr:r<8)(hs:s<8)(ht:t<8)(h:MchM w b bv iv ov m)(h0:0≤m.steps)(h1:m.steps≤100000)(ha:0≤m.at')(hb:m.at'≤100000):
  qC 239 #[.agg #[.int .i64 (r:Int),.int .i64 (s:Int),.int .i64 (t:Int)],.pointer (some ⟨b,0,none⟩)] w fun e w'=>e=.returned (.tuple #[])∧MchM w' b bv iv ov (exec (.alu 1 r s t) (m.at'+1) m)∧w.grownBy w' (some b):=by
 have hl:=h.lt;have a:=h.alloc (.cells #[.int .i64 (r:Int),.int .i64 (s:Int),.int .i64 (t:Int)] 172);have hcr:=a.cR r hr;have hr0:(0:Int)≤(r:Int):=by omega
 have hr8:(r:Int)<8:=by omega
 have hcs:=a.cR s hs;have hs0:(0:Int)≤(s:Int):=by omega
 have hs8:(s:Int)<8:=by omega
 have hct:=a.cR t ht;have ht0:(0:Int)≤(t:Int):=by omega
 have ht8:(t:Int)<8:=by omega
 have f:=fun n=>(a.drewN n).setR r hr (zby 1 (m.regs s) (m.regs t));have hfz:=a.fz r;have hne4:¬w.heap.size=b:=by omega
 have hne5:¬b=w.heap.size:=by omega
 go_enter Tryz.func239,Tryz.ntmps239;go_wp2_with fail
 refine zao 21 (by kernel_rfl) (by kernel_rfl) ?_;simp only [q2];repeat(go_big_quiet_step (fail))
 refine wpQuiet_nil ?_;rintro _ ⟨c,rfl⟩;rw [zs4];go_wp2_with(first|(go_at_call 225;refine(zca _ b bv iv ov _ (f c) h0 h1 ha hb).mono ?_;rintro e w2 ⟨rfl,g,d⟩))
 go_end0
 exact⟨rfl,g,zae zaR d⟩
theorem zzc(w:World)(b:Nat)(bv iv ov:Value)(m:Mc)(r s t:Nat)(hr:r<8)(hs:s<8)(ht:t<8)(h:MchM w b bv iv ov m)(h0:0≤m.steps)(h1:m.steps≤100000)(ha:0≤m.at')(hb:m.at'≤100000):
  qC 243 #[.agg #[.int .i64 (r:Int),.int .i64 (s:Int),.int .i64 (t:Int)],.pointer (some ⟨b,0,none⟩)] w fun e w'=>e=.returned (.tuple #[])∧MchM w' b bv iv ov (exec (.alu 2 r s t) (m.at'+1) m)∧w.grownBy w' (some b):=by
 have hl:=h.lt;have a:=h.alloc (.cells #[.int .i64 (r:Int),.int .i64 (s:Int),.int .i64 (t:Int)] 173);have hcr:=a.cR r hr;have hr0:(0:Int)≤(r:Int):=by omega
 have hr8:(r:Int)<8:=by omega
 have hcs:=a.cR s hs;have hs0:(0:Int)≤(s:Int):=by omega
 have hs8:(s:Int)<8:=by omega
 have hct:=a.cR t ht;have ht0:(0:Int)≤(t:Int):=by omega
 have ht8:(t:Int)<8:=by omega
 have f:=fun n=>(a.drewN n).setR r hr (zby 2 (m.regs s) (m.regs t));have hfz:=a.fz r;have hne4:¬w.heap.size=b:=by omega
 have hne5:¬b=w.heap.size:=by omega
 go_enter Tryz.func243,Tryz.ntmps243;go_wp2_with fail
 refine zao 21 (by kernel_rfl) (by kernel_rfl) ?_;simp only [q2];repeat(go_big_quiet_step (fail))
 refine wpQuiet_nil ?_;rintro _ ⟨c,rfl⟩;rw [zs5];go_wp2_with(first|(go_at_call 225;refine(zca _ b bv iv ov _ (f c) h0 h1 ha hb).mono ?_;rintro e w2 ⟨rfl,g,d⟩))
 go_end0
 exact⟨rfl,g,zae zaR d⟩
theorem zzd(w:World)(b:Nat)(bv iv ov:Value)(m:Mc)(r:Nat)(hr:r<8)(k:Int)(h:MchM w b bv iv ov m)(h0:0≤m.steps)(h1:m.steps≤100000)(ha:0≤m.at')(hb:m.at'≤100000):
  qC 249 #[.agg #[.int .i64 (r:Int),.int .i64 k],.pointer (some ⟨b,0,none⟩)] w fun e w'=>e=.returned (.tuple #[])∧MchM w' b bv iv ov (exec (.inc r k) (m.at'+1) m)∧w.grownBy w' (some b):=by
 have hl:=h.lt;have a:=h.alloc (.cells #[.int .i64 (r:Int),.int .i64 k] 174);have hcr:=a.cR r hr;have hr0:(0:Int)≤(r:Int):=by omega
 have hr8:(r:Int)<8:=by omega
 have f:=fun n=>(a.drewN n).setR r hr (w64 (m.regs r+k));have hfz:=a.fz r;have hne4:¬w.heap.size=b:=by omega
 have hne5:¬b=w.heap.size:=by omega
 go_enter Tryz.func249,Tryz.ntmps249;go_wp2_with fail
 refine zao 13 (by kernel_rfl) (by kernel_rfl) ?_;simp only [q2];repeat(go_big_quiet_step (fail))
 refine wpQuiet_nil ?_;rintro _ ⟨c,rfl⟩;rw [zc9];go_wp2_with(first|(go_at_call 225;refine(zca _ b bv iv ov _ (f c) h0 h1 ha hb).mono ?_;rintro e w2 ⟨rfl,g,d⟩))
 go_end0
 exact⟨rfl,g,zae zaR d⟩
theorem zfi(w:World)(a:Value):∀ j u,[a][j]?=some u→(w.alloc (.cells #[a] 2)).cell? ((⟨w.heap.size,0,none⟩:Addr).add j)=some u:=by
 intro j u b;have c:=World.cell?_alloc_new (w:=w) #[a] 2 j;have h2:(⟨w.heap.size,0,none⟩:Addr).add j=⟨w.heap.size,j,none⟩:=by simp [Addr.add];omega
 rw [h2,c];rw [←List.getElem?_toArray] at b;exact b
theorem zsU(w:World)(g o cap:Nat)(l:List Int)(hp:0<l.length)(hc:∀ j (h:j<l.length),w.cell? ⟨g,o+j,none⟩=some (.int .i64 l[j]))(hn:l.length≤1048576):
  qC 17 #[.slice (some ⟨g,o,none⟩) l.length cap] w fun e w'=>∃ v,e=.returned v∧w'.ownsRow w.heap.size 2 1 v (l.length+1) (i64s (l++[-77]))∧qB w w':=by
 obtain⟨z,n,r,q,m⟩:=info_parts Tryz.info2;have s:=World.ownsRow_nil w w.heap.size 2 1;have k:∀ j u,(i64s l)[j]?=some u→w.cell? ((⟨g,o,none⟩:Addr).add j)=some u:=by
  intro j u b;rw [List.getElem?_map] at b;cases hq:l[j]? with
  | none=>rw [hq] at b;cases b
  | some x =>
   rw [hq] at b;obtain⟨t,hx⟩:=List.getElem?_eq_some_iff.1 hq;have:=hc j t;rw [hx] at this;rw [Addr.add_mid,this];exact b
 have p:∀ u∈i64s l,u.oneCell'=true:=by
  intro u C;obtain⟨x,_,rfl⟩:=List.mem_map.1 C;rfl
 have B:(i64s l).length=l.length*1:=by simp
 go_enter Tryz.func17,Tryz.ntmps17;go_wp2_with(first
  | (at_builtin;refine wpList_append_own _ rfl _ _ 29 rfl w.heap.size 2 z (.int .i64 0) 1 8 Tryz.under29 n r q m rfl (by decide) _ _ _ rfl s ⟨g,o,none⟩ l.length cap (i64s l) rfl B k p (by unfold maxLen;omega) (by omega) (Nat.le_refl _) ?_))
 intro v1 A a c _;have f:qB w A:=(Below.refl _ _).grown c (Nat.le_refl _) (fun j b=>by cases b);go_wp2_with(first
  | (at_builtin;refine wpList_append_own _ rfl _ _ 29 rfl w.heap.size 2 z (.int .i64 0) 1 8 Tryz.under29 n r q m rfl (by decide) _ _ _ rfl (a.alloc _) ⟨A.heap.size,0,none⟩ 1 1 [.int .i64 (-77)] rfl rfl (zfi _ _) (by simp [Value.oneCell']) (by unfold maxLen;omega) (by omega) (by have:=f.size;simp;omega) ?_))
 intro D E i d _;have y:qB w E:=(f.alloc f.size _).grown d (by have:=f.size;simp;omega) (fun j b=>(a.lt j b).1);go_wp2;go_ret;exact⟨D,rfl,by simpa [i64s] using i,y⟩
theorem zsV(w:World)(ao:Option Addr)(cap:Nat):
  qC 17 #[.slice ao 0 cap] w fun e w'=>∃ v,e=.returned v∧w'.ownsRow w.heap.size 2 1 v 1 (i64s [-77])∧qB w w':=by
 obtain⟨l,f,g,h,d⟩:=info_parts Tryz.info2;go_enter Tryz.func17,Tryz.ntmps17;cases ao with
 | none =>
  go_wp2_with(first
   | (at_builtin;refine wpList_append_own _ rfl _ _ 29 rfl w.heap.size 2 l (.int .i64 0) 1 8 Tryz.under29 f g h d rfl (by decide) _ _ _ rfl ((World.ownsRow_nil w w.heap.size 2 1).alloc _) ⟨w.heap.size,0,none⟩ 1 1 [.int .i64 (-77)] rfl rfl (zfi _ _) (by simp [Value.oneCell']) (by unfold maxLen;omega) (by omega) (by simp) ?_))
  intro i k b a _;have c:qB w k:=((Below.refl _ w).alloc (Nat.le_refl _) _).grown a (by simp) (fun j hj=>by cases hj);go_wp2;go_ret;exact⟨i,rfl,by simpa [i64s] using b,c⟩
 | some p =>
  go_wp2_with(first
   | (at_builtin;refine wpList_append_own _ rfl _ _ 29 rfl w.heap.size 2 l (.int .i64 0) 1 8 Tryz.under29 f g h d rfl (by decide) _ _ _ rfl ((World.ownsRow_nil w w.heap.size 2 1).alloc _) ⟨w.heap.size,0,none⟩ 1 1 [.int .i64 (-77)] rfl rfl (zfi _ _) (by simp [Value.oneCell']) (by unfold maxLen;omega) (by omega) (by simp) ?_))
  intro i k b a _;have c:qB w k:=((Below.refl _ w).alloc (Nat.le_refl _) _).grown a (by simp) (fun j hj=>by cases hj);go_wp2;go_ret;exact⟨i,rfl,by simpa [i64s] using b,c⟩
theorem zdz(w:World)(v:Value)(l:List Int)(h:SlN w v l)(hn:l.length≤1048576):
  qC 17 #[v] w fun e w'=>∃ u,e=.returned u∧w'.ownsRow w.heap.size 2 1 u (l.length+1) (i64s (l++[-77]))∧qB w w':=by
 obtain⟨d,a,rfl,f⟩:=h;by_cases b:0<l.length
 ·obtain⟨g,o,rfl,c⟩:=f b;exact zsU w g o a l b c hn
 ·have i:l=[]:=List.eq_nil_of_length_eq_zero (by omega);subst i;exact zsV w d a
section
attribute [local go_sem ↓] Go.wp_at_zero Go.wp_at_succ
theorem zqs(w:World)(b B:Nat)(bv iv ov:Value)(m:Mc)(x:Int)(h:MchM w b bv iv ov m)(hown:w.ownsRow B 2 1 ov m.out.length (i64s m.out))(hno:ov.ownBlock≠some b)(hB:B≤w.heap.size)(hlen:m.out.length≤100000):
  qC 264 #[.pointer (some ⟨b,0,none⟩),.int .i64 x] w fun e w'=>e=.returned (.tuple #[]) ∧
   ∃ v' w4,MchM w' b bv iv v' { m with out:=m.out++[x] }∧w4.ownsRow B 2 1 v' (m.out.length+1) (i64s (m.out++[x]))∧w.grownBy w4 ov.ownBlock∧w4.grownBy w' (some b):=by
 have q:=h.lt;have f:=h.cO;obtain⟨p,k,l,o,j⟩:=info_parts Tryz.info2;have g:some b≠ov.ownBlock:=fun e=>hno e.symm;have hne4:¬w.heap.size=b:=by omega
 have hne5:¬b=w.heap.size:=by omega
 go_enter Tryz.func264,Tryz.ntmps264;go_wp2_with(first
  | (at_builtin;refine wpList_append_own _ rfl _ _ 29 rfl B 2 p (.int .i64 0) 1 8 Tryz.under29 k l o j rfl (by decide) _ _ _ rfl (hown.alloc _) ⟨w.heap.size,0,none⟩ 1 1 [.int .i64 x] rfl rfl (zfi _ _) (by simp [Value.oneCell']) (by unfold maxLen;omega) (by omega) (by simp;omega) ?_))
 intro v' w4 a d _;obtain⟨r,c,rfl,hgb,hgl⟩:=a.form (by omega);have i:MchM w4 b bv iv ov m:=h.of_block ((d.block b (by simp;omega) g).trans (Below.heap_alloc _ _ _ q));have n:w.grownBy w4 ov.ownBlock:=(World.grownBy_alloc w _ _).trans d;clear f;have f:=i.cO;have hfo:=i.fz 25;go_wp2
 go_end0
 exact⟨rfl,_,w4,i.setO (.slice (some ⟨r,0,none⟩) (m.out.length+1) c) (m.out++[x]),by simpa [i64s] using a,n,zac (Below.refl _ _)⟩
theorem zqt(w:World)(b c:Nat)(ao:Option Addr)(iv ov:Value)(m:Mc)(to:Int)(h:MchM w b (.slice ao 15 c) iv ov m)(h2:(m.fin == 2)=false):
  qC 281 #[.pointer (some ⟨b,0,none⟩),.int .i64 to] w fun e w'=>e=.returned (.tuple #[])∧MchM w' b (.slice ao 15 c) iv ov { m with fin:=4 }∧w.grownBy w' (some b):=by
 have hce:=h.cE;have hfe:=h.fz 30;have f:=zfd w b 15 c ao iv ov m h (by omega) h2;go_enter Tryz.func281,Tryz.ntmps281;go_wp2_with(first|(go_at_call 110;refine f.mono ?_;rintro e wx ⟨rfl,d⟩;have a:=d.symm;subst a))
 (try simp only [Exit.inBlock,Exit.then]);refine bodyPost_ret (results_none rfl _ _ _) rfl ?_
 exact⟨rfl,h.setE 4,zac (Below.refl _ _)⟩
theorem zsW(w:World)(b c:Nat)(ao:Option Addr)(iv ov:Value)(m:Mc)(h:MchM w b (.slice ao 0 c) iv ov m)(h0:0≤m.steps)(h1:m.steps≤100000):
  qC 222 #[.pointer (some ⟨b,0,none⟩)] w fun e w'=>e=.returned (.tuple #[])∧MchM w' b (.slice ao 0 c) iv ov { m with steps:=m.steps+1,fin:=2 }∧w.grownBy w' (some b):=by
 have hcb:=h.cB;go_enter Tryz.func222,Tryz.ntmps222;go_wp2_with(first|(go_at_call 286;refine(zhX w b _ iv ov m 2 h h0 h1).mono ?_;rintro e w2 ⟨rfl,d,a⟩))
 (try simp only [Exit.inBlock,Exit.then]);refine bodyPost_ret (results_none rfl _ _ _) rfl ?_
 exact⟨rfl,d,a⟩
theorem zvL(w:World)(b c g n:Nat)(iv ov:Value)(m:Mc)(to:Int)(l:List Int)(h:MchM w b (.slice (some ⟨g,0,none⟩) (n+1) c) iv ov m)(hcg:w.cell? ⟨g,n,none⟩=some (.int .i64 to))(hgb:¬g=b)(hn:n≤16)(hc:n+1≤c)(h0:0≤m.steps)(h1:m.steps≤100000):
  qC 222 #[.pointer (some ⟨b,0,none⟩)] w fun e w'=>e=.returned (.tuple #[])∧MchM w' b (.slice (some ⟨g,0,none⟩) n c) iv ov ({ m with backs:=l }.goes to)∧w.grownBy w' (some b):=by
 have hcb:=h.cB;have hfb:=h.fz 27;have hbg:¬b=g:=fun e=>hgb e.symm;have hn0:(0:Int)≤(n:Int):=by omega
 have hn1:(n:Int)<(n:Int)+1:=by omega
 have d:=h.setB (.slice (some ⟨g,0,none⟩) n c) l;go_enter Tryz.func222,Tryz.ntmps222;go_wp2_with(first|(go_at_call 228;refine(zeG _ b _ iv ov _ to d h0 h1).mono ?_;rintro e w2 ⟨rfl,f,a⟩))
 go_end0
 exact⟨rfl,f,zae (zac (Below.refl _ _)) a⟩
end
theorem zvP(w:World)(b wb cap r s t:Nat)(lv bv iv ov:Value)(m:Mc)(x1 x2 x3:ByteArray)(h:RefM w b lv bv iv ov m)(hw:WdIn w wb [⟨#[97,100,100]⟩,x1,x2,x3])(_hne:¬wb=b)(hr:r<8)(hreg:reg x1=(r:Int))(hs:s<8)(hreg2:reg x2=(s:Int))(ht:t<8)(hreg3:reg x3=(t:Int))(hx1:x1.size≤1048576)(hx2:x2.size≤1048576)(hx3:x3.size≤1048576):
  qC 90 #[.pointer (some ⟨b,0,none⟩),.slice (some ⟨wb,0,none⟩) 4 cap] w fun e w'=>e=.returned (.tuple #[])∧RefM w' b lv bv iv ov { m with regs:=upd m.regs r (zby 0 (m.regs s) (m.regs t)) }∧w.grownBy w' (some b):=by
 have k:=hw 0 (by simp);have f:=hw 1 (by simp);have l:=hw 2 (by simp);have n:=hw 3 (by simp);simp only [List.getElem_cons_zero,List.getElem_cons_succ] at k f l n;have hcr:=h.cR r hr;have hfz:=h.fz (5+r);have hr0:(0:Int)≤(r:Int):=by omega
 have hr8:(r:Int)<8:=by omega
 have i:=zav x1 r hreg hx1;have hcs:=h.cR s hs;have hs0:(0:Int)≤(s:Int):=by omega
 have hs8:(s:Int)<8:=by omega
 have hct:=h.cR t ht;have ht0:(0:Int)≤(t:Int):=by omega
 have ht8:(t:Int)<8:=by omega
 have j:=zav x2 s hreg2 hx2;have g:=zav x3 t hreg3 hx3;have d:=fun W=>zqd (m.regs s) (m.regs t) W;generalize zby 0 (m.regs s) (m.regs t)=v at d ⊢;go_enter Tryz.func90,Tryz.ntmps90;go_wp2_with(first|(go_at_call 75;refine(i _).mono ?_;rintro e wx ⟨rfl,a⟩;have c:=a.symm;subst c))
 refine zao 30 (by kernel_rfl) (by kernel_rfl) ?_;simp only [q2];repeat(go_big_quiet_step (first|(go_at_call 111;exact Calls.quiet_of_same (d _))|(go_at_call_of 75 (Value.string x2);exact Calls.quiet_of_same (j _))|(go_at_call_of 75 (Value.string x3);exact Calls.quiet_of_same (g _))))
 refine wpQuiet_nil ?_;rintro _ ⟨nq,rfl⟩;go_wp2
 go_end0
 exact⟨rfl,(h.drewN nq).setR r hr _,zac (zaF _ _)⟩
theorem zvQ(w:World)(b wb cap r s t:Nat)(lv bv iv ov:Value)(m:Mc)(x1 x2 x3:ByteArray)(h:RefM w b lv bv iv ov m)(hw:WdIn w wb [⟨#[115,117,98]⟩,x1,x2,x3])(_hne:¬wb=b)(hr:r<8)(hreg:reg x1=(r:Int))(hs:s<8)(hreg2:reg x2=(s:Int))(ht:t<8)(hreg3:reg x3=(t:Int))(hx1:x1.size≤1048576)(hx2:x2.size≤1048576)(hx3:x3.size≤1048576):
  qC 90 #[.pointer (some ⟨b,0,none⟩),.slice (some ⟨wb,0,none⟩) 4 cap] w fun e w'=>e=.returned (.tuple #[])∧RefM w' b lv bv iv ov { m with regs:=upd m.regs r (zby 1 (m.regs s) (m.regs t)) }∧w.grownBy w' (some b):=by
 have k:=hw 0 (by simp);have f:=hw 1 (by simp);have l:=hw 2 (by simp);have n:=hw 3 (by simp);simp only [List.getElem_cons_zero,List.getElem_cons_succ] at k f l n;have hcr:=h.cR r hr;have hfz:=h.fz (5+r);have hr0:(0:Int)≤(r:Int):=by omega
 have hr8:(r:Int)<8:=by omega
 have i:=zav x1 r hreg hx1;have hcs:=h.cR s hs;have hs0:(0:Int)≤(s:Int):=by omega
 have hs8:(s:Int)<8:=by omega
 have hct:=h.cR t ht;have ht0:(0:Int)≤(t:Int):=by omega
 have ht8:(t:Int)<8:=by omega
 have j:=zav x2 s hreg2 hx2;have g:=zav x3 t hreg3 hx3;have d:=fun W=>zqe (m.regs s) (m.regs t) W;generalize zby 1 (m.regs s) (m.regs t)=v at d ⊢;go_enter Tryz.func90,Tryz.ntmps90;go_wp2_with(first|(go_at_call 75;refine(i _).mono ?_;rintro e wx ⟨rfl,a⟩;have c:=a.symm;subst c))
 refine zao 30 (by kernel_rfl) (by kernel_rfl) ?_;simp only [q2];repeat(go_big_quiet_step (first|(go_at_call 111;exact Calls.quiet_of_same (d _))|(go_at_call_of 75 (Value.string x2);exact Calls.quiet_of_same (j _))|(go_at_call_of 75 (Value.string x3);exact Calls.quiet_of_same (g _))))
 refine wpQuiet_nil ?_;rintro _ ⟨nq,rfl⟩;go_wp2
 go_end0
 exact⟨rfl,(h.drewN nq).setR r hr _,zac (zaF _ _)⟩
end Go.Proofs.YtfpgjkbjbbgciaaGreatDoor
