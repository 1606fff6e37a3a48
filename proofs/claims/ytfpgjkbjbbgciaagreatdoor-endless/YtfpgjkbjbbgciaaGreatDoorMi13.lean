import Derived.Test.YtfpgjkbjbbgciaaGreatDoorMi11
import Derived.Test.YtfpgjkbjbbgciaaGreatDoorMi12
set_option maxRecDepth 100000
set_option maxHeartbeats 8000000
namespace Go.Proofs.YtfpgjkbjbbgciaaGreatDoor
open Go.RowKit Sp
section
attribute [local go_sem ↓] Go.wp_at_zero Go.wp_at_succ
theorem MapIs.drew{w:World}{b:Nat}{E:List (ByteArray × Nat)}(h:MapIs w b E):MapIs w.drew b E:=h
theorem znf(w:World)(a:Obj){w1:World}(h:Below (w.alloc a).drew.heap.size (w.alloc a).drew w1):Below w.heap.size w w1 :=
 (((Below.refl w.heap.size w).alloc (Nat.le_refl _) a).drew).trans (h.mono (by show w.heap.size≤(w.alloc a).heap.size;simp))
theorem zxM(w:World)(B fg o m:Nat)(bv:Value)(its:List It)(i:It)(E:List (ByteArray × Nat))(hs:i.sort=1)
  (hc:w.cell? ⟨fg,o+2,none⟩=some bv) (hm:w.cell? ⟨fg,o+3,none⟩=some (.map (some m))) (hM:MapIs w m E) (hown:w.ownsRow B 135 8 bv its.length (zav its)) (_hn:its.length≤4096)
  (hnm:i.nm.size≤1048576) (hold:(zbx E).any (fun y=>eqW y i.nm)=true) :
  Calls Tryz.prog 101 #[.pointer (some ⟨fg,o,none⟩),stm i.sort i.line i.word i.a i.b i.c i.n i.nm] w fun e w'=>e=zak 3 i.line∧Below w.heap.size w w':=by
 have lg:fg<w.heap.size:=World.block_lt_of_cell? w _ hc
 have hne4:¬w.heap.size=fg:=by omega
 have hne5:¬fg=w.heap.size:=by omega
 have hv:∃ ao cap,bv=.slice ao its.length cap:=by
  rcases hown.2 with ⟨hv,h0⟩|⟨g,cap,cur,hv,_⟩
  ·exact⟨none,0,by rw [hv,h0]⟩
  ·exact⟨_,cap,hv⟩
 obtain⟨ao,cap,rfl⟩:=hv
 rw [hs]
 have hcall:=zlh ((w.alloc (.cells #[.int .i64 1,.int .i64 i.line,.string i.word,.int .i64 i.a,.int .i64 i.b,.int .i64 i.c,.int .i64 i.n,.string i.nm] 135)).drew) m E (hM.alloc _).drew 1 i.line i.word i.a i.b i.c i.n i.nm (its.length:Int) hnm hold
 go_enter Tryz.func101,Tryz.ntmps101
 go_wp2_with fail
 go_region_dies
 all_goals(go_at_call 131;refine hcall.mono ?_;rintro e w2 ⟨rfl,hb⟩)
 all_goals exact⟨rfl,rfl,znf _ _ hb⟩
theorem zvw(w:World)(s l:Int)(x:ByteArray)(a b c n:Int)(y:ByteArray):
  ((w.alloc (.cells #[.int .i64 s,.int .i64 l,.string x,.int .i64 a,.int .i64 b,.int .i64 c,.int .i64 n,.string y] 135)).drew).cell? ⟨w.heap.size,0,none⟩=some (.int .i64 s) ∧
  ((w.alloc (.cells #[.int .i64 s,.int .i64 l,.string x,.int .i64 a,.int .i64 b,.int .i64 c,.int .i64 n,.string y] 135)).drew).cell? ⟨w.heap.size,1,none⟩=some (.int .i64 l) ∧
  ((w.alloc (.cells #[.int .i64 s,.int .i64 l,.string x,.int .i64 a,.int .i64 b,.int .i64 c,.int .i64 n,.string y] 135)).drew).cell? ⟨w.heap.size,2,none⟩=some (.string x) ∧
  ((w.alloc (.cells #[.int .i64 s,.int .i64 l,.string x,.int .i64 a,.int .i64 b,.int .i64 c,.int .i64 n,.string y] 135)).drew).cell? ⟨w.heap.size,3,none⟩=some (.int .i64 a) ∧
  ((w.alloc (.cells #[.int .i64 s,.int .i64 l,.string x,.int .i64 a,.int .i64 b,.int .i64 c,.int .i64 n,.string y] 135)).drew).cell? ⟨w.heap.size,4,none⟩=some (.int .i64 b) ∧
  ((w.alloc (.cells #[.int .i64 s,.int .i64 l,.string x,.int .i64 a,.int .i64 b,.int .i64 c,.int .i64 n,.string y] 135)).drew).cell? ⟨w.heap.size,5,none⟩=some (.int .i64 c) ∧
  ((w.alloc (.cells #[.int .i64 s,.int .i64 l,.string x,.int .i64 a,.int .i64 b,.int .i64 c,.int .i64 n,.string y] 135)).drew).cell? ⟨w.heap.size,6,none⟩=some (.int .i64 n) ∧
  ((w.alloc (.cells #[.int .i64 s,.int .i64 l,.string x,.int .i64 a,.int .i64 b,.int .i64 c,.int .i64 n,.string y] 135)).drew).cell? ⟨w.heap.size,7,none⟩=some (.string y):=by
 have h:=World.cell?_alloc_new (w:=w) #[.int .i64 s,.int .i64 l,.string x,.int .i64 a,.int .i64 b,.int .i64 c,.int .i64 n,.string y] 135
 exact⟨h 0,h 1,h 2,h 3,h 4,h 5,h 6,h 7⟩
theorem zj5(w:World)(b:Obj)(p:Addr)(h:p.block<w.heap.size):(w.alloc b).drew.frozen? p=w.frozen? p :=
 World.frozen?_of_block (w:=w) (((Below.refl w.heap.size w).alloc (Nat.le_refl _) b).drew.block p.block h)
theorem zhu(w:World)(b:Obj)(p:Addr)(h:p.block<w.heap.size):(w.alloc b).drew.cell? p=w.cell? p :=
 World.cell?_of_block (w:=w) (((Below.refl w.heap.size w).alloc (Nat.le_refl _) b).drew.block p.block h)
theorem zoH(w:World)(cs:Array Value)(t:TypeId):(w.alloc (.cells cs t)).drew.heap[w.heap.size]?=some (.cells cs t (0,0)):=heap_alloc_new w (.cells cs t)
theorem zig{w w1:World}{a:Obj}{row:Option Nat}(h:(w.alloc a).drew.grownBy w1 row):w.grownBy w1 row :=
 (World.grownBy_alloc w a row).trans ⟨h.os,h.tape,h.output,h.size,h.block⟩
theorem zxN(w:World)(B fg o m:Nat)(bv:Value)(its:List It)(i:It)(E:List (ByteArray × Nat))(hs:i.sort=1)
  (hc:w.cell? ⟨fg,o+2,none⟩=some bv) (hm:w.cell? ⟨fg,o+3,none⟩=some (.map (some m))) (hM:MapIs w m E) (hown:w.ownsRow B 135 8 bv its.length (zav its)) (hn:its.length≤4096) (hnn:E.length≤4096)
  (hnm:i.nm.size≤1048576) (hold:(zbx E).any (fun y=>eqW y i.nm)=false) :
  Calls Tryz.prog 101 #[.pointer (some ⟨fg,o,none⟩),stm i.sort i.line i.word i.a i.b i.c i.n i.nm] w fun e w'=>e=.returned (.tuple #[])∧w.grownBy w' (some m)∧MapIs w' m (E++[(i.nm,its.length)]):=by
 have lg:fg<w.heap.size:=World.block_lt_of_cell? w _ hc
 have hne4:¬w.heap.size=fg:=by omega
 have hne5:¬fg=w.heap.size:=by omega
 have hv:∃ ao cap,bv=.slice ao its.length cap:=by
  rcases hown.2 with ⟨hv,h0⟩|⟨g,cap,cur,hv,_⟩
  ·exact⟨none,0,by rw [hv,h0]⟩
  ·exact⟨_,cap,hv⟩
 obtain⟨ao,cap0,rfl⟩:=hv
 rw [hs]
 have hcall:=zlg ((w.alloc (.cells #[.int .i64 1,.int .i64 i.line,.string i.word,.int .i64 i.a,.int .i64 i.b,.int .i64 i.c,.int .i64 i.n,.string i.nm] 135)).drew) m E (hM.alloc _).drew 1 i.line i.word i.a i.b i.c i.n i.nm its.length hn hnn hnm hold
 go_enter Tryz.func101,Tryz.ntmps101
 go_wp2_with fail
 go_region_with(go_at_call 131;refine hcall.mono ?_;rintro e w2 ⟨rfl,hM2,hg2⟩)
 all_goals go_wp2
 all_goals go_end0
 all_goals exact⟨rfl,zig hg2,hM2⟩
end
theorem zpV(w:World)(a:Value):∀ j u,[a][j]?=some u→(w.alloc (.cells #[a] 2)).cell? ((⟨w.heap.size,0,none⟩:Addr).add j)=some u:=by
 intro j u hj
 have h1:=World.cell?_alloc_new (w:=w) #[a] 2 j
 have h2:(⟨w.heap.size,0,none⟩:Addr).add j=⟨w.heap.size,j,none⟩:=by simp [Addr.add];omega
 rw [h2,h1]
 rw [←List.getElem?_toArray] at hj
 exact hj
section
attribute [local go_sem ↓] Go.wp_at_zero Go.wp_at_succ
theorem zpW(w:World)(b B:Nat)(bv iv ov:Value)(m:Mc)(x:Int)(h:MchM w b bv iv ov m)(hown:w.ownsRow B 2 1 ov m.out.length (i64s m.out))(hno:ov.ownBlock≠some b)(hB:B≤w.heap.size)(hlen:m.out.length≤100000):
  Calls Tryz.prog 264 #[.pointer (some ⟨b,0,none⟩),.int .i64 x] w fun e w'=>e=.returned (.tuple #[]) ∧
   ∃ v' w4,MchM w' b bv iv v' { m with out:=m.out++[x] }∧w4.ownsRow B 2 1 v' (m.out.length+1) (i64s (m.out++[x]))∧w.grownBy w4 ov.ownBlock∧w4.grownBy w' (some b):=by
 have lg:=h.lt
 have hco:=h.cO
 obtain⟨i0,hi0,hz0,hz1,hz2⟩:=info_parts Tryz.info2
 have hne2:some b≠ov.ownBlock:=fun e=>hno e.symm
 have hne4:¬w.heap.size=b:=by omega
 have hne5:¬b=w.heap.size:=by omega
 go_enter Tryz.func264,Tryz.ntmps264
 go_wp2_with(first
  | (at_builtin;refine wpList_append_own _ rfl _ _ 29 rfl B 2 i0 (.int .i64 0) 1 8 Tryz.under29 hi0 hz0 hz1 hz2 rfl (by decide) _ _ _ rfl (hown.alloc _) ⟨w.heap.size,0,none⟩ 1 1 [.int .i64 x] rfl rfl (zpV _ _) (by simp [Value.oneCell']) (by unfold maxLen;omega) (by omega) (by simp;omega) ?_))
 intro v' w4 hown4 hgrow _
 obtain⟨gb,c,rfl,hgb,hgl⟩:=hown4.form (by omega)
 have h4:MchM w4 b bv iv ov m:=h.of_block ((hgrow.block b (by simp;omega) hne2).trans (Below.heap_alloc _ _ _ lg))
 have hg4:w.grownBy w4 ov.ownBlock:=(World.grownBy_alloc w _ _).trans hgrow
 clear hco
 have hco:=h4.cO
 have hfo:=h4.fz 25
 go_wp2
 go_end0
 exact⟨rfl,_,w4,h4.setO (.slice (some ⟨gb,0,none⟩) (m.out.length+1) c) (m.out++[x]),by simpa [i64s] using hown4,hg4,zah (Below.refl _ _)⟩
theorem zpX(w:World)(b c:Nat)(ao:Option Addr)(iv ov:Value)(m:Mc)(to:Int)(h:MchM w b (.slice ao 15 c) iv ov m)(h2:(m.fin == 2)=false):
  Calls Tryz.prog 281 #[.pointer (some ⟨b,0,none⟩),.int .i64 to] w fun e w'=>e=.returned (.tuple #[])∧MchM w' b (.slice ao 15 c) iv ov { m with fin:=4 }∧w.grownBy w' (some b):=by
 have hce:=h.cE
 have hfe:=h.fz 30
 have hf:=zeM w b 15 c ao iv ov m h (by omega) h2
 go_enter Tryz.func281,Tryz.ntmps281
 go_wp2_with(first|(go_at_call 110;refine hf.mono ?_;rintro e wx ⟨rfl,hww⟩;have hw2:=hww.symm;subst hw2))
 (try simp only [Exit.inBlock,Exit.then]);refine bodyPost_ret (results_none rfl _ _ _) rfl ?_
 exact⟨rfl,h.setE 4,zah (Below.refl _ _)⟩
theorem zsr(w:World)(b c:Nat)(ao:Option Addr)(iv ov:Value)(m:Mc)(h:MchM w b (.slice ao 0 c) iv ov m)(h0:0≤m.steps)(h1:m.steps≤100000):
  Calls Tryz.prog 222 #[.pointer (some ⟨b,0,none⟩)] w fun e w'=>e=.returned (.tuple #[])∧MchM w' b (.slice ao 0 c) iv ov { m with steps:=m.steps+1,fin:=2 }∧w.grownBy w' (some b):=by
 have hcb:=h.cB
 go_enter Tryz.func222,Tryz.ntmps222
 go_wp2_with(first|(go_at_call 286;refine(zhS w b _ iv ov m 2 h h0 h1).mono ?_;rintro e w2 ⟨rfl,hM,hg⟩))
 (try simp only [Exit.inBlock,Exit.then]);refine bodyPost_ret (results_none rfl _ _ _) rfl ?_
 exact⟨rfl,hM,hg⟩
theorem zvx(w:World)(b c g n:Nat)(iv ov:Value)(m:Mc)(to:Int)(l:List Int)(h:MchM w b (.slice (some ⟨g,0,none⟩) (n+1) c) iv ov m)(hcg:w.cell? ⟨g,n,none⟩=some (.int .i64 to))(hgb:¬g=b)(hn:n≤16)(hc:n+1≤c)(h0:0≤m.steps)(h1:m.steps≤100000):
  Calls Tryz.prog 222 #[.pointer (some ⟨b,0,none⟩)] w fun e w'=>e=.returned (.tuple #[])∧MchM w' b (.slice (some ⟨g,0,none⟩) n c) iv ov ({ m with backs:=l }.goes to)∧w.grownBy w' (some b):=by
 have hcb:=h.cB
 have hfb:=h.fz 27
 have hbg:¬b=g:=fun e=>hgb e.symm
 have hn0:(0:Int)≤(n:Int):=by omega
 have hn1:(n:Int)<(n:Int)+1:=by omega
 have hx:=h.setB (.slice (some ⟨g,0,none⟩) n c) l
 go_enter Tryz.func222,Tryz.ntmps222
 go_wp2_with(first|(go_at_call 228;refine(zev _ b _ iv ov _ to hx h0 h1).mono ?_;rintro e w2 ⟨rfl,hM,hg⟩))
 go_end0
 exact⟨rfl,hM,zai (zah (Below.refl _ _)) hg⟩
end
section
attribute [local go_sem ↓] Go.wp_at_zero Go.wp_at_succ
theorem zlj(w:World)(b c r:Nat)(bv ov:Value)(ao:Option Addr)(m:Mc)(hr:r<8)(h:MchM w b bv (.slice ao 0 c) ov m)(h0:0≤m.steps)(h1:m.steps≤100000)(ha:0≤m.at')(hb:m.at'≤100000):
  Calls Tryz.prog 259 #[.agg #[.int .i64 (r:Int)],.pointer (some ⟨b,0,none⟩)] w fun e w'=>e=.returned (.tuple #[])∧MchM w' b bv (.slice ao 0 c) ov ({ m with regs:=upd m.regs r 0 }.goes (m.at'+1))∧w.grownBy w' (some b):=by
 have hl:=h.lt
 have h2:=h.alloc (.cells #[.int .i64 (r:Int)] 180)
 have hcr:=h2.cR r hr
 have hr0:(0:Int)≤(r:Int):=by omega
 have hr8:(r:Int)<8:=by omega
 have hx:=fun n=>(h2.drewN n).setR r hr 0
 have hfz:=h2.fz r
 have hcall:=fun n=>zpL ((w.alloc (.cells #[.int .i64 (r:Int)] 180)).drewN n) b c bv ov ao m (h2.drewN n)
 have hne4:¬w.heap.size=b:=by omega
 have hne5:¬b=w.heap.size:=by omega
 go_enter Tryz.func259,Tryz.ntmps259
 go_wp2_with fail
 refine zam 8 (by kernel_rfl) (by kernel_rfl) ?_
 simp only [List.take_succ_cons,List.take_zero,List.drop_succ_cons,List.drop_zero]
 repeat(go_big_quiet_step (first|(go_at_call 261;exact Calls.quiet_of_same (hcall _))))
 refine wpQuiet_nil ?_
 rintro _ ⟨nr,rfl⟩
 go_wp2_with(first|(go_at_call 225;refine(zbA _ b bv _ ov _ (hx nr) h0 h1 ha hb).mono ?_;rintro e w2 ⟨rfl,hM,hg⟩))
 go_end0
 exact⟨rfl,hM,zai zaG hg⟩
theorem zvy(w:World)(b r:Nat)(bv iv ov:Value)(m:Mc)(hr:r<8)(h:MchM w b bv iv ov m)(hown:w.ownsRow (b+1) 2 1 ov m.out.length (i64s m.out))(hlen:m.out.length≤100000)(h0:0≤m.steps)(h1:m.steps≤100000)(ha:0≤m.at')(hb:m.at'≤100000):
  Calls Tryz.prog 262 #[.agg #[.int .i64 (r:Int)],.pointer (some ⟨b,0,none⟩)] w fun e w'=>e=.returned (.tuple #[]) ∧
   ∃ v' w4,MchM w' b bv iv v' (exec (.write r) (m.at'+1) m)∧w4.ownsRow (b+1) 2 1 v' (m.out.length+1) (i64s (m.out++[m.regs r]))∧w.grownBy w4 ov.ownBlock∧w4.grownBy w' (some b):=by
 have hl:=h.lt
 have h2:=h.alloc (.cells #[.int .i64 (r:Int)] 182)
 have hcr:=h2.cR r hr
 have hr0:(0:Int)≤(r:Int):=by omega
 have hr8:(r:Int)<8:=by omega
 have hne4:¬w.heap.size=b:=by omega
 have hne5:¬b=w.heap.size:=by omega
 have hcall:=fun n=>zpW ((w.alloc (.cells #[.int .i64 (r:Int)] 182)).drewN n) b (b+1) bv iv ov m (m.regs r) (h2.drewN n) (hown.alloc _) (zcZ hown) (by show b+1≤(w.alloc _).heap.size;simp;omega) hlen
 go_enter Tryz.func262,Tryz.ntmps262
 go_wp2_with fail
 refine zam 8 (by kernel_rfl) (by kernel_rfl) ?_
 simp only [List.take_succ_cons,List.take_zero,List.drop_succ_cons,List.drop_zero]
 repeat(go_big_quiet_step (fail))
 refine wpQuiet_nil ?_
 rintro _ ⟨nr,rfl⟩
 go_wp2_with(first|(go_at_call 264;refine(hcall nr).mono ?_;rintro e w3 ⟨rfl,v',w4,hM3,hown4,hg4,hg3⟩)|(go_at_call 225;refine(zbA _ b bv iv v' _ hM3 h0 h1 ha hb).mono ?_;rintro e w2 ⟨rfl,hM,hg⟩))
 go_end0
 exact⟨rfl,v',w4,hM,hown4,(World.grownBy_alloc w _ _).trans (zb4 hg4),zai hg3 hg⟩
theorem zlk(w:World)(b c r g o n:Nat)(bv ov:Value)(m:Mc)(x:Int)(l:List Int)(hr:r<8)(h:MchM w b bv (.slice (some ⟨g,o,none⟩) (n+1) c) ov m)(hx:w.cell? ⟨g,o,none⟩=some (.int .i64 x))(hn:n≤9223372036854775806)(hc:n+1≤c)(h0:0≤m.steps)(h1:m.steps≤100000)(ha:0≤m.at')(hb:m.at'≤100000):
  Calls Tryz.prog 259 #[.agg #[.int .i64 (r:Int)],.pointer (some ⟨b,0,none⟩)] w fun e w'=>e=.returned (.tuple #[])∧(∃ o',MchM w' b bv (.slice (some ⟨g,o',none⟩) n (c-1)) ov ({ m with regs:=upd m.regs r x,inp:=l }.goes (m.at'+1))∧(n=0∨o'=o+1))∧w.grownBy w' (some b):=by
 have hl:=h.lt
 have hlg:g<w.heap.size:=World.block_lt_of_cell? w _ hx
 have h2:=h.alloc (.cells #[.int .i64 (r:Int)] 180)
 have hr0:(0:Int)≤(r:Int):=by omega
 have hr8:(r:Int)<8:=by omega
 have hx2:(w.alloc (.cells #[.int .i64 (r:Int)] 180)).cell? ⟨g,o,none⟩=some (.int .i64 x):=(World.cell?_alloc_lt w _ _ hlg).trans hx
 have hcall:=zpM ((w.alloc (.cells #[.int .i64 (r:Int)] 180)).drew) b c g o n bv ov m x l h2.drew hx2 hn hc
 have hne4:¬w.heap.size=b:=by omega
 have hne5:¬b=w.heap.size:=by omega
 have hcr:=h2.cR r hr
 have hfr:=h2.fz r
 go_enter Tryz.func259,Tryz.ntmps259
 go_wp2_with fail
 go_region_with(go_at_call 261;refine hcall.mono ?_;rintro e w3 ⟨rfl,⟨o',hM3,ho⟩,hg3⟩;have hc3:=hM3.cR r hr;have hf3:=hM3.fz r;have hq3:w3.cell? ⟨w.heap.size,0,none⟩=some (.int .i64 (r:Int)):=(hg3.cell_far ⟨w.heap.size,0,none⟩ (by show w.heap.size<(w.alloc _).heap.size;simp) (by simp;omega)).trans (by show(w.alloc _).cell? _=_;simp))
 all_goals go_wp2_with(first|(go_at_call 225;refine(zbA _ b bv _ ov _ (hM3.setR r hr x) h0 h1 ha hb).mono ?_;rintro e w2 ⟨rfl,hM,hg⟩))
 all_goals go_end0
 all_goals exact⟨rfl,⟨o',hM,ho⟩,zai (World.grownBy_alloc w _ _) (zai ⟨hg3.os,hg3.tape,hg3.output,hg3.size,hg3.block⟩ (zai (zah (Below.refl _ _)) hg))⟩
end
section
attribute [local go_sem ↓] Go.wp_at_zero Go.wp_at_succ
theorem zvz(w:World)(b c:Nat)(ao:Option Addr)(iv ov:Value)(m:Mc)(to:Int)(p:Nat)(h:MchM w b (.slice ao m.backs.length c) iv ov m)(h2:(m.fin == 2)=false)(hown:w.ownsRow (b+1) 3 1 (.slice ao m.backs.length c) m.backs.length (i64s m.backs))(hlen:m.backs.length<15)(hp:m.peak=(p:Int))(_hp1:p≤16)
  (h0:0≤m.steps) (h1:m.steps≤100000) (ha:0≤m.at') (hb:m.at'≤100000) :
  Calls Tryz.prog 281 #[.pointer (some ⟨b,0,none⟩),.int .i64 to] w fun e w'=>e=.returned (.tuple #[]) ∧
   ∃ g c' w4,MchM w' b (.slice (some ⟨g,0,none⟩) (m.backs.length+1) c') iv ov ({ m with backs:=m.backs++[m.at'+1],peak:=max m.peak ((m.backs.length:Int)+2) }.goes to)∧w4.ownsRow (b+1) 3 1 (.slice (some ⟨g,0,none⟩) (m.backs.length+1) c') (m.backs.length+1) (i64s (m.backs++[m.at'+1]))∧w.grownBy w4 ((Value.slice ao m.backs.length c).ownBlock)∧w4.grownBy w' (some b):=by
 have hpk:max m.peak ((m.backs.length:Int)+2)=max (p:Int) ((m.backs.length:Int)+1+1):=by rw [hp,Int.add_assoc];rfl
 rw [hpk]
 have hno:=zcZ hown
 have hf:=zeM w b _ c ao iv ov m h (by omega) h2
 have hc:=h.cB
 have hcn:=h.cN
 have hf27:=h.fz 27
 have lg:=h.lt
 obtain⟨i0,hi0,hz0,hz1,hz2⟩:=info_parts Tryz.info3
 generalize hbv:Value.slice ao m.backs.length c=bv at h hown hno hc hf
 have hne2:some b≠bv.ownBlock:=fun e=>hno e.symm
 have hne4:¬w.heap.size=b:=by omega
 have hne5:¬b=w.heap.size:=by omega
 have h16:(((m.backs.length:Int)+1) == 16)=false:=by simp;omega
 have hw1:IntKind.i64.wrap (m.at'+1)=m.at'+1:=zdD _ (by omega) (by omega)
 go_enter Tryz.func281,Tryz.ntmps281
 go_wp2_with(first|(go_at_call 110;refine hf.mono ?_;rintro e wx ⟨rfl,hww⟩;have hw2:=hww.symm;subst hw2))
 go_region_law
  ((refine step_append_lies _ (by rfl) _ _ _ (by rfl) (b+1) 3 i0 _ 1 8 Tryz.under59 hi0 hz0 hz1 hz2 rfl (by omega) bv m.backs.length (i64s m.backs) (by rfl) ((hown.alloc _).drew)
     ⟨w.heap.size,0,none⟩ 1 1 [.int .i64 (m.at'+1)] (by rfl) (by rfl) (World.news_of_block (cs:=#[.int .i64 (m.at'+1)]) (t:=3) (fr:=(0,0)) (zoH w _ _)) (by simp [Value.oneCell'])
     (by omega) (by unfold maxLen;omega) (by omega) (by simp;omega) (w.heap.size+1) (by simp) ?_;intro g c' w1 hown1 hgrow hat hltg;have hfz:w1.frozen? ⟨b,27,none⟩=false:=(hgrow.frozen_far _ (by simp;omega) hne2).trans ((zj5 w _ _ lg).trans hf27);have hcz:w1.cell? ⟨b,27,none⟩=some bv:=(hgrow.cell_far _ (by simp;omega) hne2).trans ((zhu w _ _ lg).trans hc)))
 all_goals have h4:MchM w1 b bv iv ov m:=h.of_block ((hgrow.block b (by simp;omega) hne2).trans (Below.heap_alloc _ _ _ lg))
 all_goals have h5:=h4.setB (.slice (some ⟨g,0,none⟩) (m.backs.length+1) c') (m.backs++[m.at'+1])
 all_goals have hg4:w.grownBy w1 bv.ownBlock:=zig hgrow
 all_goals have hg5:w1.grownBy (w1.setCell ⟨b,27,none⟩ (.slice (some ⟨g,0,none⟩) (m.backs.length+1) c')) (some b):=zah (Below.refl _ _)
 all_goals clear hfz hcz hc hf27 hcn hf h16
 all_goals generalize w1.setCell ⟨b,27,none⟩ (.slice (some ⟨g,0,none⟩) (m.backs.length+1) c')=w5 at h5 hg5 ⊢
 all_goals have hf5:=fun n=>zeM (w5.drewN n) b (m.backs.length+1) c' _ iv ov _ (h5.drewN n) (by omega) h2
 all_goals simp only [Int.natCast_add,Int.cast_ofNat_Int] at hf5
 all_goals have hcp:=h5.cP
 all_goals have hfp:=h5.fz 29
 all_goals go_wp2_with fail
 all_goals refine zam 10 (by kernel_rfl) (by kernel_rfl) ?_
 all_goals simp only [List.take_succ_cons,List.take_zero,List.drop_succ_cons,List.drop_zero]
 all_goals repeat(go_big_quiet_step (first|(go_at_call 110;exact Calls.quiet_of_same (hf5 _))))
 all_goals refine wpQuiet_nil ?_
 all_goals rintro _ ⟨nr,rfl⟩
 all_goals go_wp2_with(first|(go_at_call 228;refine(zev _ b _ iv ov _ to ((h5.drewN nr).setP (max (p:Int) ((m.backs.length:Int)+1+1))) h0 h1).mono ?_;rintro e w2 ⟨rfl,hM,hg⟩))
 all_goals go_end0
 all_goals exact⟨rfl,g,c',w1,hM,by simpa [i64s] using hown1,hg4,zai hg5 (zai (zb4 (n:=nr) (zah (Below.refl _ _))) hg)⟩
theorem zll(w:World)(b c:Nat)(ao:Option Addr)(iv ov:Value)(m:Mc)(to:Int)(h:MchM w b (.slice ao 15 c) iv ov m)(h2:(m.fin == 2)=false):
  Calls Tryz.prog 279 #[.agg #[.int .i64 to],.pointer (some ⟨b,0,none⟩)] w fun e w'=>e=.returned (.tuple #[])∧MchM w' b (.slice ao 15 c) iv ov { m with fin:=4 }∧w.grownBy w' (some b):=by
 have h3:=h.alloc (.cells #[.int .i64 to] 190)
 go_enter Tryz.func279,Tryz.ntmps279
 go_wp2_with(first|(go_at_call 281;refine(zpX _ b c ao iv ov m to h3 h2).mono ?_;rintro e w2 ⟨rfl,hM,hg⟩))
 go_end0
 exact⟨rfl,hM,zai (World.grownBy_alloc w _ _) hg⟩
theorem zpY(w:World)(b c:Nat)(ao:Option Addr)(iv ov:Value)(m:Mc)(to:Int)(p:Nat)(h:MchM w b (.slice ao m.backs.length c) iv ov m)(h2:(m.fin == 2)=false)(hown:w.ownsRow (b+1) 3 1 (.slice ao m.backs.length c) m.backs.length (i64s m.backs))(hlen:m.backs.length<15)(hp:m.peak=(p:Int))(hp1:p≤16)
  (h0:0≤m.steps) (h1:m.steps≤100000) (ha:0≤m.at') (hb:m.at'≤100000) :
  Calls Tryz.prog 279 #[.agg #[.int .i64 to],.pointer (some ⟨b,0,none⟩)] w fun e w'=>e=.returned (.tuple #[]) ∧
   ∃ g c' w4,MchM w' b (.slice (some ⟨g,0,none⟩) (m.backs.length+1) c') iv ov ({ m with backs:=m.backs++[m.at'+1],peak:=max m.peak ((m.backs.length:Int)+2) }.goes to)∧w4.ownsRow (b+1) 3 1 (.slice (some ⟨g,0,none⟩) (m.backs.length+1) c') (m.backs.length+1) (i64s (m.backs++[m.at'+1]))∧w.grownBy w4 ((Value.slice ao m.backs.length c).ownBlock)∧w4.grownBy w' (some b):=by
 have h3:=h.alloc (.cells #[.int .i64 to] 190)
 go_enter Tryz.func279,Tryz.ntmps279
 go_wp2_with(first|(go_at_call 281;refine(zvz _ b c ao iv ov m to p h3 h2 (hown.alloc _) hlen hp hp1 h0 h1 ha hb).mono ?_;rintro e w2 ⟨rfl,g,c',w4,hM,hown4,hg4,hg⟩))
 go_end0
 exact⟨rfl,g,c',w4,hM,hown4,(World.grownBy_alloc w _ _).trans hg4,hg⟩
theorem zng(w:World)(b c:Nat)(ao:Option Addr)(iv ov:Value)(m:Mc)(h:MchM w b (.slice ao 0 c) iv ov m)(h0:0≤m.steps)(h1:m.steps≤100000):
  Calls Tryz.prog 284 #[.agg #[],.pointer (some ⟨b,0,none⟩)] w fun e w'=>e=.returned (.tuple #[])∧MchM w' b (.slice ao 0 c) iv ov { m with steps:=m.steps+1,fin:=2 }∧w.grownBy w' (some b):=by
 have h3:=h.alloc (.cells #[] 192)
 go_enter Tryz.func284,Tryz.ntmps284
 go_wp2_with(first|(go_at_call 222;refine(zsr _ b c ao iv ov m h3 h0 h1).mono ?_;rintro e w2 ⟨rfl,hM,hg⟩))
 go_end0
 exact⟨rfl,hM,zai (World.grownBy_alloc w _ _) hg⟩
theorem zpZ(w:World)(b c g n:Nat)(iv ov:Value)(m:Mc)(to:Int)(l:List Int)(h:MchM w b (.slice (some ⟨g,0,none⟩) (n+1) c) iv ov m)(hcg:w.cell? ⟨g,n,none⟩=some (.int .i64 to))(hgb:¬g=b)(hn:n≤16)(hc:n+1≤c)(h0:0≤m.steps)(h1:m.steps≤100000):
  Calls Tryz.prog 284 #[.agg #[],.pointer (some ⟨b,0,none⟩)] w fun e w'=>e=.returned (.tuple #[])∧MchM w' b (.slice (some ⟨g,0,none⟩) n c) iv ov ({ m with backs:=l }.goes to)∧w.grownBy w' (some b):=by
 have h3:=h.alloc (.cells #[] 192)
 have hcg3:(w.alloc (.cells #[] 192)).cell? ⟨g,n,none⟩=some (.int .i64 to):=(World.cell?_alloc_lt w _ _ (World.block_lt_of_cell? w _ hcg)).trans hcg
 go_enter Tryz.func284,Tryz.ntmps284
 go_wp2_with(first|(go_at_call 222;refine(zvx _ b c g n iv ov m to l h3 hcg3 hgb hn hc h0 h1).mono ?_;rintro e w2 ⟨rfl,hM,hg⟩))
 go_end0
 exact⟨rfl,hM,zai (World.grownBy_alloc w _ _) hg⟩
end
end Go.Proofs.YtfpgjkbjbbgciaaGreatDoor
