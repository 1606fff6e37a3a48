import Derived.Test.YtfpgjkbjbbgciaaGreatDoorMk11
import Derived.Test.YtfpgjkbjbbgciaaGreatDoorMk12
set_option maxRecDepth 100000
set_option maxHeartbeats 8000000
namespace Go.Proofs.YtfpgjkbjbbgciaaGreatDoor
open Go.RowKit Sp
section
attribute [local go_sem ↓] Go.wp_at_zero Go.wp_at_succ
theorem zjQ(w:World)(a b:Obj)(p:Addr)(h:p.block<w.heap.size):((w.alloc a).alloc b).drew.frozen? p=w.frozen? p :=
 World.frozen?_of_block (w:=w) ((((Below.refl w.heap.size w).alloc (Nat.le_refl _) a).alloc (by simp) b).drew.block p.block h)
theorem zpm(w:World)(a b:Obj)(p:Addr)(h:p.block<w.heap.size):((w.alloc a).alloc b).drew.cell? p=w.cell? p :=
 World.cell?_of_block (w:=w) ((((Below.refl w.heap.size w).alloc (Nat.le_refl _) a).alloc (by simp) b).drew.block p.block h)
theorem zpn(w:World)(a:Obj)(cs:Array Value)(t:TypeId):((w.alloc a).alloc (.cells cs t)).drew.heap[w.heap.size+1]?=some (.cells cs t (0,0)):=by
 have h:=heap_alloc_new (w.alloc a) (.cells cs t);rw [show(w.alloc a).heap.size=w.heap.size+1 by simp] at h;exact h
theorem zlP{w w1:World}{a b:Obj}{row:Option Nat}(h:((w.alloc a).alloc b).drew.grownBy w1 row):w.grownBy w1 row :=
 ((World.grownBy_alloc w a row).trans (World.grownBy_alloc _ b row)).trans ⟨h.os,h.tape,h.output,h.size,h.block⟩
theorem zsZ(w:World)(B fg o:Nat)(bv:Value)(its:List It)(i:It)(hs:¬i.sort=1)
  (hc:w.cell? ⟨fg,o+2,none⟩=some bv) (hf:w.frozen? ⟨fg,o+2,none⟩=false) (hown:w.ownsRow B 135 8 bv its.length (zav its)) (hne:bv.ownBlock≠some fg) (hB:B≤w.heap.size) (hn:its.length≤4096) :
  Calls Tryz.prog 101 #[.pointer (some ⟨fg,o,none⟩),stm i.sort i.line i.word i.a i.b i.c i.n i.nm] w fun e w'=>e=.returned (.tuple #[]) ∧
   ∃ g cap w1,w'=w1.setCell ⟨fg,o+2,none⟩ (.slice (some ⟨g,0,none⟩) (its.length+1) cap)∧w.grownBy w1 bv.ownBlock ∧
    w1.ownsRow B 135 8 (.slice (some ⟨g,0,none⟩) (its.length+1) cap) (its.length+1) (zav (its++[i]))∧(bv.ownBlock=some g∨w.heap.size≤g):=by
 obtain⟨u,l,p,q,r⟩:=info_parts Tryz.info135;have s:fg<w.heap.size:=World.block_lt_of_cell? w _ hc;have hs':(i.sort == 1)=false:=by simpa using hs
 have m:∀ b,bv.ownBlock=some b→b<w.heap.size:=fun b hb=>(hown.lt b hb).2;have f:some fg≠bv.ownBlock:=fun e=>hne e.symm;have hne3:some w.heap.size≠bv.ownBlock:=fun e=>by have:=m _ e.symm;omega
 have hne4:¬w.heap.size=fg:=by omega
 have hne5:¬fg=w.heap.size:=by omega
 go_enter Tryz.func101,Tryz.ntmps101;go_wp2_with fail
 go_region_law
  ((refine step_append_lies _ (by rfl) _ _ _ (by rfl) B 135 u _ 8 80 Tryz.under116 l p q r rfl (by omega) bv its.length (zav its) (by rfl) (((hown.alloc _).alloc _).drew)
     ⟨w.heap.size+1,0,none⟩ 1 1 i.cells (by rfl) (by rfl) (World.news_of_block (cs:=i.cells.toArray) (t:=135) (fr:=(0,0)) (zpn w _ _ _)) (zl8 i)
     (by omega) (by unfold maxLen;omega) (by omega) (by simp;omega) (w.heap.size+1+1) (by simp) ?_;intro g cap w1 j d k hltg;have hfz:w1.frozen? ⟨fg,o+2,none⟩=false:=(d.frozen_far _ (by simp;omega) f).trans ((zjQ w _ _ _ s).trans hf);have hcz:w1.cell? ⟨fg,o+2,none⟩=some bv:=(d.cell_far _ (by simp;omega) f).trans ((zpm w _ _ _ s).trans hc)))
 all_goals go_end0
 all_goals exact⟨rfl,g,cap,w1,rfl,zlP d,by rw [zfL];exact j,by rcases k with h|h;exact .inl h;exact .inr (by omega)⟩
end
abbrev OutW(w:World):World:=(w.alloc (.cells #[.int .i64 0] 22)).alloc (.cells #[.int .i64 0] 3)
theorem zhN(fn:Nat)(caps:Array Value)(w:World)(Q:World→Prop)(hfn:∀ W,(callFunc fn caps).run Tryz.prog W=.ok (.enter fn caps) W)
  (hcall:Calls Tryz.prog fn caps (OutW w) fun e w1=>e=.returned (.tuple #[])∧Q w1)
  (hQ:∀ w1,Q w1→w1.cell? ⟨w.heap.size,0,none⟩=some (.int .i64 0)∧w1.cell? ⟨w.heap.size+1,0,none⟩=some (.int .i64 0)∧w1.frozen? ⟨w.heap.size,0,none⟩=false∧w1.frozen? ⟨w.heap.size+1,0,none⟩=false) :
  Calls Tryz.prog 42 #[.func (.func fn) #[] caps] w fun e w'=>e=.returned (.tuple #[.int .i64 0,.int .i64 0])∧∃ w1,Q w1∧w'=(w1.setCell ⟨w.heap.size,0,none⟩ (.int .i64 0)).setCell ⟨w.heap.size+1,0,none⟩ (.int .i64 0):=by
 have hmf:∀(fn:Go.Fn) (first cap:Array Value) (w:World),(Instr.makeFunc fn first cap).run Tryz.prog w=.ok (.func fn first cap) w:=fun _ _ _ _=>rfl
 go_enter_defers Tryz.func42,Tryz.ntmps42
 go_wp2_with(first|(refine hcall.mono ?_;rintro e w1 ⟨rfl,a⟩;obtain⟨g,h,f0,f1⟩:=hQ w1 a))
 have b:((w1.setCell ⟨w.heap.size,0,none⟩ (.int .i64 0)).setCell ⟨w.heap.size+1,0,none⟩ (.int .i64 0)).cell? ⟨w.heap.size,0,none⟩=some (.int .i64 0):=by
  rw [World.cell?_setCell_other]
  ·exact World.cell?_setCell_same w1 _ _ g
  ·simp
 have c:((w1.setCell ⟨w.heap.size,0,none⟩ (.int .i64 0)).setCell ⟨w.heap.size+1,0,none⟩ (.int .i64 0)).cell? ⟨w.heap.size+1,0,none⟩=some (.int .i64 0):=by
  refine World.cell?_setCell_same (u:=.int .i64 0) _ _ _ ?_;rw [World.cell?_setCell_other]
  ·exact h
  ·simp
 generalize d:(w1.setCell ⟨w.heap.size,0,none⟩ (.int .i64 0)).setCell ⟨w.heap.size+1,0,none⟩ (.int .i64 0)=X at b c ⊢;refine leaves_cons (f:=64) (args:=#[.pointer (some ⟨w.heap.size,0,none⟩),.pointer (some ⟨w.heap.size+1,0,none⟩)]) (by simp) (by simp [go_sem]) ?_;refine(zjD w.heap.size _).mono ?_;rintro e u' w'' ⟨rfl,rfl,rfl⟩;exact⟨.tuple #[.int .i64 0,.int .i64 0],by simp [results,Tryz.results42,go_sem,b,c],rfl,w1,a,d.symm⟩
theorem zel(fn:Nat)(caps:Array Value)(w:World)(er ln:Int)(hfn:∀ W,(callFunc fn caps).run Tryz.prog W=.ok (.enter fn caps) W)
  (hcall:Calls Tryz.prog fn caps (OutW w) fun e w1=>e=zak er ln∧Below (OutW w).heap.size (OutW w) w1) :
  Calls Tryz.prog 42 #[.func (.func fn) #[] caps] w fun e w'=>e=.returned (.tuple #[.int .i64 er,.int .i64 ln])∧Below w.heap.size w w':=by
 have hmf:∀(fn:Go.Fn) (first cap:Array Value) (w:World),(Instr.makeFunc fn first cap).run Tryz.prog w=.ok (.func fn first cap) w:=fun _ _ _ _=>rfl
 go_enter_defers Tryz.func42,Tryz.ntmps42
 go_wp2_with(first|(refine hcall.mono ?_;rintro e w1 ⟨rfl,b⟩;obtain⟨hc,hf⟩:=zhL b))
 have i:w1.cell? ⟨w.heap.size,0,none⟩=some (.int .i64 0):=by rw [hc _ _ (by simp;omega)];simp
 have j:w1.cell? ⟨w.heap.size+1,0,none⟩=some (.int .i64 0):=by rw [hc _ _ (by simp)];simp
 have c:w1.frozen? ⟨w.heap.size,0,none⟩=false:=by rw [hf _ _ (by simp;omega)];simp
 have d:w1.frozen? ⟨w.heap.size+1,0,none⟩=false:=by rw [hf _ _ (by simp)];simp
 refine leaves_cons (f:=64) (args:=#[.pointer (some ⟨w.heap.size,0,none⟩),.pointer (some ⟨w.heap.size+1,0,none⟩)]) (by simp) (by simp [go_sem]) ?_;refine(zf9 w.heap.size 0 0 er ln _ i j c d).mono ?_;rintro e u' w'' ⟨rfl,rfl,a,g,h⟩;exact⟨.tuple #[.int .i64 er,.int .i64 ln],by simp [results,Tryz.results42,go_sem,g,h],rfl,(znp _ _ _ b).trans a⟩
theorem zr8{w W0 w3:World}(hs0:W0.heap.size=w.heap.size+1+1+1+1)(k0:W0.cell? ⟨w.heap.size+1+1,0,none⟩=some (.int .i64 0)∧W0.cell? ⟨w.heap.size+1+1,1,none⟩=some (.int .i64 0)∧W0.cell? ⟨w.heap.size+1+1+1,0,none⟩=some (.int .i64 0)∧W0.cell? ⟨w.heap.size+1+1+1,1,none⟩=some (.int .i64 0))
  (kz:∀ j,W0.frozen? ⟨w.heap.size+1+1,j,none⟩=false∧W0.frozen? ⟨w.heap.size+1+1+1,j,none⟩=false) (hb:Below W0.heap.size W0 w3) :
  (w3.cell? ⟨w.heap.size+1+1,0,none⟩=some (.int .i64 0)∧w3.cell? ⟨w.heap.size+1+1,1,none⟩=some (.int .i64 0)∧w3.cell? ⟨w.heap.size+1+1+1,0,none⟩=some (.int .i64 0)∧w3.cell? ⟨w.heap.size+1+1+1,1,none⟩=some (.int .i64 0)) ∧
  w3.frozen? ⟨w.heap.size+1+1,0,none⟩=false∧w3.frozen? ⟨w.heap.size+1+1,1,none⟩=false∧w3.frozen? ⟨w.heap.size+1+1+1,0,none⟩=false∧w3.frozen? ⟨w.heap.size+1+1+1,1,none⟩=false:=by
 have z:∀ b j,b<W0.heap.size→w3.frozen? ⟨b,j,none⟩=W0.frozen? ⟨b,j,none⟩:=fun b j h=>World.frozen?_of_block (w:=W0) (a:=⟨b,j,none⟩) (hb.block b h);refine⟨zdb hb k0,?_,?_,?_,?_⟩
 ·rw [z _ _ (by omega)];exact(kz 0).1
 ·rw [z _ _ (by omega)];exact(kz 1).1
 ·rw [z _ _ (by omega)];exact(kz 0).2
 ·rw [z _ _ (by omega)];exact(kz 1).2
theorem zd0{W:World}{b c d:Nat}{x y v0 v1 v2 v3:Value}(n1:¬c=b)(n2:¬d=b)(h:W.cell? ⟨c,0,none⟩=some v0∧W.cell? ⟨c,1,none⟩=some v1∧W.cell? ⟨d,0,none⟩=some v2∧W.cell? ⟨d,1,none⟩=some v3):
  ((W.setCell ⟨b,0,none⟩ x).setCell ⟨b,1,none⟩ y).cell? ⟨c,0,none⟩=some v0∧((W.setCell ⟨b,0,none⟩ x).setCell ⟨b,1,none⟩ y).cell? ⟨c,1,none⟩=some v1∧((W.setCell ⟨b,0,none⟩ x).setCell ⟨b,1,none⟩ y).cell? ⟨d,0,none⟩=some v2∧((W.setCell ⟨b,0,none⟩ x).setCell ⟨b,1,none⟩ y).cell? ⟨d,1,none⟩=some v3:=by
 have e:∀(g o:Nat),¬g=b→((W.setCell ⟨b,0,none⟩ x).setCell ⟨b,1,none⟩ y).cell? ⟨g,o,none⟩=W.cell? ⟨g,o,none⟩:=fun g o hg=>by
  rw [World.cell?_setCell_other,World.cell?_setCell_other];all_goals simp
 rw [e c 0 n1,e c 1 n1,e d 0 n2,e d 1 n2];exact h
theorem zr9{W:World}{p q:Nat}{x0 x1 y0 y1 u0 u1 v0 v1:Value}(hne:¬p=q)(h:W.cell? ⟨p,0,none⟩=some u0∧W.cell? ⟨p,1,none⟩=some u1∧W.cell? ⟨q,0,none⟩=some v0∧W.cell? ⟨q,1,none⟩=some v1):
  ((((W.setCell ⟨p,0,none⟩ x0).setCell ⟨p,1,none⟩ x1).setCell ⟨q,0,none⟩ y0).setCell ⟨q,1,none⟩ y1).cell? ⟨p,0,none⟩=some x0∧((((W.setCell ⟨p,0,none⟩ x0).setCell ⟨p,1,none⟩ x1).setCell ⟨q,0,none⟩ y0).setCell ⟨q,1,none⟩ y1).cell? ⟨p,1,none⟩=some x1 ∧
  ((((W.setCell ⟨p,0,none⟩ x0).setCell ⟨p,1,none⟩ x1).setCell ⟨q,0,none⟩ y0).setCell ⟨q,1,none⟩ y1).cell? ⟨q,0,none⟩=some y0∧((((W.setCell ⟨p,0,none⟩ x0).setCell ⟨p,1,none⟩ x1).setCell ⟨q,0,none⟩ y0).setCell ⟨q,1,none⟩ y1).cell? ⟨q,1,none⟩=some y1:=by
 obtain⟨c,f⟩:=za4 (v0:=x0) (v1:=x1) h.1 h.2.1;have a:¬q=p:=fun e=>hne e.symm;have b:=zd0 (b:=p) (x:=x0) (y:=x1) a a ⟨h.2.2.1,h.2.2.2,h.2.2.1,h.2.2.2⟩;obtain⟨g,i⟩:=za4 (v0:=y0) (v1:=y1) b.1 b.2.1;have d:=zd0 (b:=q) (x:=y0) (y:=y1) hne hne ⟨c,f,c,f⟩;exact⟨d.1,d.2.1,g,i⟩
theorem zf5(a b c d:Int)(w:World)(hl:Rg.Ok ⟨a,b⟩)(hr:Rg.Ok ⟨c,d⟩)(hn:(a == c)=false∨((a == c)=true∧(b == d)=false)∨((a == c)=true∧(b == d)=true∧(a == b)=false)):Calls Tryz.prog 277 #[rv ⟨a,b⟩,rv ⟨c,d⟩] w (zey w ⟨a,b⟩ ⟨c,d⟩ (zbd ⟨a,b⟩ ⟨c,d⟩)):=by
 have q:¬((a=c∧b=d)∧a=b):=fun h=>by
  rcases hn with t|⟨_,t⟩|⟨_,_,t⟩
  ·simp at t;exact t h.1.1
  ·simp at t;exact t h.1.2
  ·simp at t;exact t h.2
 have I:zbd ⟨a,b⟩ ⟨c,d⟩=some ((⟨a,b⟩:Rg).without (⟨c,d⟩:Rg),(⟨c,d⟩:Rg).without (⟨a,b⟩:Rg)):=by unfold zbd;rw [if_neg (by dsimp only;omega)]
 rw [I];have C:=fun W=>ziU (⟨a,b⟩:Rg) (⟨c,d⟩:Rg) W hl (by dsimp only;omega);have D:=fun W=>ziU (⟨c,d⟩:Rg) (⟨a,b⟩:Rg) W hr (by dsimp only;omega);have n:=ziF w (⟨a,b⟩:Rg) (⟨c,d⟩:Rg) (.cells #[.int .i64 0,.int .i64 0] 213) (.cells #[.int .i64 0,.int .i64 0] 213);have m:((((w.alloc (.cells #[.int .i64 a,.int .i64 b] 213)).alloc (.cells #[.int .i64 c,.int .i64 d] 213)).alloc (.cells #[.int .i64 0,.int .i64 0] 213)).alloc (.cells #[.int .i64 0,.int .i64 0] 213)).heap.size=w.heap.size+1+1+1+1:=by simp
 have o:Below w.heap.size w ((((w.alloc (.cells #[.int .i64 a,.int .i64 b] 213)).alloc (.cells #[.int .i64 c,.int .i64 d] 213)).alloc (.cells #[.int .i64 0,.int .i64 0] 213)).alloc (.cells #[.int .i64 0,.int .i64 0] 213)):=zbV;have E:((((w.alloc (.cells #[.int .i64 a,.int .i64 b] 213)).alloc (.cells #[.int .i64 c,.int .i64 d] 213)).alloc (.cells #[.int .i64 0,.int .i64 0] 213)).alloc (.cells #[.int .i64 0,.int .i64 0] 213)).cell? ⟨w.heap.size+1+1,0,none⟩=some (.int .i64 0)∧((((w.alloc (.cells #[.int .i64 a,.int .i64 b] 213)).alloc (.cells #[.int .i64 c,.int .i64 d] 213)).alloc (.cells #[.int .i64 0,.int .i64 0] 213)).alloc (.cells #[.int .i64 0,.int .i64 0] 213)).cell? ⟨w.heap.size+1+1,1,none⟩=some (.int .i64 0)∧((((w.alloc (.cells #[.int .i64 a,.int .i64 b] 213)).alloc (.cells #[.int .i64 c,.int .i64 d] 213)).alloc (.cells #[.int .i64 0,.int .i64 0] 213)).alloc (.cells #[.int .i64 0,.int .i64 0] 213)).cell? ⟨w.heap.size+1+1+1,0,none⟩=some (.int .i64 0)∧((((w.alloc (.cells #[.int .i64 a,.int .i64 b] 213)).alloc (.cells #[.int .i64 c,.int .i64 d] 213)).alloc (.cells #[.int .i64 0,.int .i64 0] 213)).alloc (.cells #[.int .i64 0,.int .i64 0] 213)).cell? ⟨w.heap.size+1+1+1,1,none⟩=some (.int .i64 0) :=
  ⟨zaR _ _ _ _ _ _ 0,zaR _ _ _ _ _ _ 1,zaC _ _ _ _ _ _ 0,zaC _ _ _ _ _ _ 1⟩
 have F:∀ j,((((w.alloc (.cells #[.int .i64 a,.int .i64 b] 213)).alloc (.cells #[.int .i64 c,.int .i64 d] 213)).alloc (.cells #[.int .i64 0,.int .i64 0] 213)).alloc (.cells #[.int .i64 0,.int .i64 0] 213)).frozen? ⟨w.heap.size+1+1,j,none⟩=false∧((((w.alloc (.cells #[.int .i64 a,.int .i64 b] 213)).alloc (.cells #[.int .i64 c,.int .i64 d] 213)).alloc (.cells #[.int .i64 0,.int .i64 0] 213)).alloc (.cells #[.int .i64 0,.int .i64 0] 213)).frozen? ⟨w.heap.size+1+1+1,j,none⟩=false:=fun j =>
  ⟨(World.frozen?_alloc_past _ _ _ (by simp)).trans (zh9 _ _ _ _ _ j),World.frozen?_alloc_at _ _ _ _ (by simp)⟩
 clear hl hr I;generalize (⟨a,b⟩:Rg).without (⟨c,d⟩:Rg)=A at C;generalize (⟨c,d⟩:Rg).without (⟨a,b⟩:Rg)=B at D;have s:¬w.heap.size=w.heap.size+1+1:=by omega
 have u:¬w.heap.size+1=w.heap.size+1+1:=by omega
 have v:¬w.heap.size=w.heap.size+1+1+1:=by omega
 have x:¬w.heap.size+1=w.heap.size+1+1+1:=by omega
 clear q;rcases hn with G|⟨N,G⟩|⟨N,G,t2⟩
 all_goals
  go_enter Tryz.func277,Tryz.ntmps277;go_wp2_with fail
  generalize (((w.alloc (.cells #[.int .i64 a,.int .i64 b] 213)).alloc (.cells #[.int .i64 c,.int .i64 d] 213)).alloc (.cells #[.int .i64 0,.int .i64 0] 213)).alloc (.cells #[.int .i64 0,.int .i64 0] 213)=W0 at m o E F n;go_region_held3 (fun W=>W.cell? ⟨w.heap.size,0,none⟩=some (.int .i64 a)∧W.cell? ⟨w.heap.size,1,none⟩=some (.int .i64 b)∧W.cell? ⟨w.heap.size+1,0,none⟩=some (.int .i64 c)∧W.cell? ⟨w.heap.size+1,1,none⟩=some (.int .i64 d))
   (first|(with_reducible exact k)|(with_reducible exact z)|(with_reducible exact zd0 s u k)|(with_reducible exact zd0 v x k)|(with_reducible exact zd0 v x (zd0 s u k))|(with_reducible exact zd0 s u (zd0 v x k))|exact n)
   (first|(go_at_call 278;(with_reducible refine(C _).mono ?_);rintro e w2 ⟨rfl,g⟩;have z:=zdb g n)|(go_at_call 278;(with_reducible refine(D _).mono ?_);rintro e y ⟨rfl,i⟩;have k:=zdb i z;have f:Below W0.heap.size W0 y:=((Below.refl _ _).drew).trans (g.trans (i.mono g.size));obtain⟨⟨J,K,L,M⟩,f1,f2,f3,f4⟩:=zr8 m E F f))
  have f:Below W0.heap.size W0 y:=((Below.refl _ _).drew).trans (g.trans (i.mono g.size));have p:=o.trans (f.mono o.size);have R:=zr9 (x0:=.int .i64 A.lo) (x1:=.int .i64 A.hi) (y0:=.int .i64 B.lo) (y1:=.int .i64 B.hi) (show ¬w.heap.size+1+1=w.heap.size+1+1+1 by omega) ⟨J,K,L,M⟩;have H:Below w.heap.size w ((((y.setCell ⟨w.heap.size+1+1,0,none⟩ (.int .i64 A.lo)).setCell ⟨w.heap.size+1+1,1,none⟩ (.int .i64 A.hi)).setCell ⟨w.heap.size+1+1+1,0,none⟩ (.int .i64 B.lo)).setCell ⟨w.heap.size+1+1+1,1,none⟩ (.int .i64 B.hi)):=zaM (zaM p (by omega)) (by omega);go_wp2;exact zez (l:=A) (r:=B) Tryz.results277 rfl rfl rfl rfl R.1 R.2.1 R.2.2.1 R.2.2.2 ⟨H,rfl⟩
theorem zpl(s:ByteArray)(w:World)(hw:LibW w)(h4:s.size≤4000)(h3:(lines s).length≤300):
  Calls Tryz.prog 66 #[.string s] w (zyy w (lines s)):=by
 obtain⟨i0,hi,ai,aj,ak⟩:=info_parts Tryz.info135;obtain⟨mm,af⟩:=hw.most;have f:=Tryz.strings_Split s ⟨#[10]⟩ mm w (by omega) af (by decide);rw [zil,(zdT s).2] at f;have ac:=zfs s;have hlow:=hw.low;generalize lines s=A at h3 ac f ⊢;have ag:LibW (w.alloc (.cells (A.map Value.string).toArray 9)):=hw.below ((Below.refl _ _).alloc (Nat.le_refl _) _);have B:∀ k (h:k<A.length),(w.alloc (.cells (A.map Value.string).toArray 9)).cell? ⟨w.heap.size,k,none⟩=some (.string A[k]):=by
  intro k h;rw [World.cell?_alloc_new];simp [h]
 have Y:Below w.heap.size w (w.alloc (.cells (A.map Value.string).toArray 9)):=(Below.refl _ _).alloc (Nat.le_refl _) _;have ad:(w.alloc (.cells (A.map Value.string).toArray 9)).heap.size=w.heap.size+1:=by simp
 go_enter Tryz.func66,Tryz.ntmps66;go_wp2_with(go_at_call 97;refine f.mono ?_;rintro e wx ⟨rfl,ah⟩;subst ah)
 clear f;generalize w.alloc (.cells (A.map Value.string).toArray 9)=W1 at ag B Y ad
 go_loopw [3,10] (fun v ti wr=>∃(k:Nat) (l:List It),k≤A.length∧l.length≤k∧ti=.int .i64 (k:Int)∧wr.ownsRow (w.heap.size+1) 135 8 v l.length (zav l)∧l.map It.key=zaU A k∧Below (w.heap.size+1) W1 wr∧zbS A 0=zbS A k∧(∀ j (h:j<A.length),j<k→(say A[j]).ok=true)) (fun _ ti _=>A.length-(intOf ti).toNat)
 case atStart=>exact⟨0,[],by omega,by simp,rfl,World.ownsRow_nil _ _ _ _,rfl,Below.refl _ _,rfl,fun j _ h=>by omega⟩
 case round =>
  obtain⟨k,l,hk,hits,rfl,J,H,I,hR,P⟩:=hrel;have HR:Hid (zbS A 0=zbS A k):=hR;have HK:Hid (l.map It.key=zaU A k):=H;have X:Hid (∀ j (h:j<A.length),j<k→(say A[j]).ok=true):=P;clear hR H P;have hszr:=I.size;have m:Below w.heap.size w wr:=Y.trans (I.mono (by omega));have D:=hw.below m;by_cases o:k<A.length
  ·have hck:=(I.cell (p:=⟨w.heap.size,k,none⟩) (by simp)).trans (B k o);have M:A[k].size≤1048576:=by have:=ac A[k] (List.getElem_mem o);omega
   have u:Hid ((say A[k]).ok=false→zbS A 0=(1,(k:Int)+1)):=fun h=>HR.out.trans (zfK A k o h);have K:Hid ((say A[k]).ok=true→zbS A 0=zbS A (k+1)):=fun h=>HR.out.trans (zfJ A k o h);have z:Hid ((say A[k]).ok=true→∀ j (h:j<A.length),j<k+1→(say A[j]).ok=true):=fun h j hj hjk=>by
    by_cases e:j=k
    ·subst e;exact h
    ·exact X.out j hj (by omega)
   cases hv:zaz A[k] 0 with
   | false =>
    have HB:=u.out (zft _ hv);have R:Hid (zbS A 0=(1,(k:Int)+1)):=HB;clear HB;go_wp2_with(go_at_call 98;refine(zqu A[k] _ wr D M hv).mono ?_;rintro e w2 ⟨rfl,d⟩)
    exact⟨rfl,m.trans (d.mono m.size),.inl ⟨k,R.out,rfl⟩⟩
   | true =>
    cases hl:zbu A[k] with
    | nil =>
     have C:=zsO _ hv hl;have W:Hid (zbS A 0=zbS A (k+1)∧zaU A (k+1)=zaU A k∧∀ j (h:j<A.length),j<k+1→(say A[j]).ok=true) :=
      ⟨K.out (by rw [C]),zim A k o (by rw [C]),z.out (by rw [C])⟩
     have HL:Hid (zbu A[k]=[]):=hl;clear C hl;go_wp2_with(go_at_call 98;refine(zn2 A[k] _ wr D M hv HL).mono ?_;rintro e w2 ⟨ao,L,rfl,d⟩)
     have i:=zbw J d (Nat.le_refl _);have Z:=I.trans (d.mono (by omega));clear d;go_roundw
     case rel=>exact⟨k+1,l,by omega,by omega,by go_num,i,by rw [W.out.2.1];exact HK.out,Z,W.out.1,W.out.2.2⟩
     case measure=>simp [intOf];omega
    | cons x r =>
     have U:=zhM A[k];have T:=zsJ A[k];rw [hl] at U T;have Q:∀ y∈(x :: r:List ByteArray),1≤y.size∧y.size≤1048576:=fun y hy=>by have:=U y hy;omega
     have ab:r.length≤1048576:=by simp at T;omega
     have C:=zin _ hv;rw [hl] at C;have aa:=zsP x r;have E:Hid (zaU A (k+1)=zaU A k++[keyQ (say A[k]) ((k:Int)+1)]):=zjL A k o (by rw [C];exact aa);rw [C] at u K z E;have HL:Hid (zbu A[k]=x :: r):=hl;generalize hq:sayW (x :: r)=q at u K z E;have HQ:Hid (sayW (x :: r)=q):=hq;clear hq C aa hl U T;cases hok:q.ok with
     | false =>
      have R:Hid (zbS A 0=(1,(k:Int)+1)):=u.out hok;go_wp2_with(first
       | (go_at_call 98;refine(zio A[k] _ wr D M hv _ HL (by simp)).mono ?_;rintro e w2 ⟨g,L,rfl,hg,O,d⟩;have N:=D.below d)
       | (go_at_call 99;refine(zl9 w2 N g L x r _ O Q ab q HQ hok).mono ?_;rintro e w3 ⟨rfl,F⟩))
      exact⟨rfl,(m.trans (d.mono m.size)).trans (F.mono (by have:=m.size;have:=d.size;omega)),.inl ⟨k,R.out,rfl⟩⟩
     | true =>
      have W:Hid (zbS A 0=zbS A (k+1)∧∀ j (h:j<A.length),j<k+1→(say A[j]).ok=true):=⟨K.out hok,z.out hok⟩
      go_wp2_with(first
       | (go_at_call 98;refine(zio A[k] _ wr D M hv _ HL (by simp)).mono ?_;rintro e w2 ⟨g,L,rfl,hg,O,d⟩;have N:=D.below d;have i:=zbw J d (Nat.le_refl _);have hs2:=d.size)
       | (go_at_call 99;refine(zsQ w2 N g L x r _ O Q ab q HQ hok).mono ?_;rintro e w3 ⟨rfl,F⟩;have t:=zbw i F (Nat.le_refl _);have hs3:=F.size)
       | (at_builtin;refine wpList_append_own _ rfl _ _ 116 rfl (w.heap.size+1) 135 i0 (.agg #[.int .i64 0,.int .i64 0,.string ByteArray.empty,.int .i64 0,.int .i64 0,.int .i64 0,.int .i64 0,.string ByteArray.empty]) 8 80 Tryz.under116 hi ai aj ak rfl (by decide) _ _ _ rfl (t.alloc _) ⟨w3.heap.size,0,none⟩ 1 1 (It.cells ⟨zfq q,(k:Int)+1,zdQ q,zcC q,(opQ q).a,(opQ q).b,(opQ q).c,(opQ q).n⟩) rfl rfl (zn1 _ _ _ _ _ _ _ _ _ _) (zl8 _) (by unfold maxLen;omega) (by omega) (by simp;omega) ?_))
      intro v' w4 S G _;have ae:Below (w.heap.size+1) W1 w4:=(((I.trans (d.mono (by omega))).trans (F.mono (by omega))).alloc (by omega) _).grown G (by simp;omega) (fun j hj=>(t.lt j hj).1);clear G t i O N;go_wp2;go_roundw
      case rel=>exact⟨k+1,l++[⟨zfq q,(k:Int)+1,zdQ q,zcC q,(opQ q).a,(opQ q).b,(opQ q).c,(opQ q).n⟩],by omega,by simp;omega,by go_num,by rw [zfL];simpa using S,by rw [List.map_append,HK.out,E.out];rfl,ae,W.out.1,W.out.2⟩
      case measure=>simp [intOf];omega
  ·have HE:Hid (zbS A 0=zb5 (A.map say) 0):=HR.out.trans (zij A k o);have V:Hid (k=A.length):=by unfold Hid;omega
   go_wp2;go_ret;refine⟨m,.inr ⟨HE.out,fun x hx=>?_,_,l,rfl,zbR J (by omega),by rw [HK.out,V.out]⟩⟩;obtain⟨j,hj,rfl⟩:=List.mem_iff_getElem.1 hx;exact X.out j hj (by have:=V.out;omega)
section
attribute [local go_sem ↓] Go.wp_at_zero Go.wp_at_succ
theorem Tryz.info131:(Tryz.prog.info? 131).map (fun i=>(i.zero,i.size,i.bytes))=some (some (.agg #[.string ByteArray.empty,.int .i64 0,.slice none 0 0,.map none]),4,56):=by kernel_rfl
theorem Tryz.under80:Tryz.prog.underlying 80=some (.slice 131):=by kernel_rfl
theorem zxR(W:World):(Instr.makeMap 81 none).run Tryz.prog W=.ok (.map (some W.heap.size)) (W.alloc (.map #[] 0)):=by kernel_rfl
theorem zta(w:World)(B p pm n:Nat)(v:Value)(xs:List Value)(i:It)(E:List (ByteArray × Nat))
  (hc:w.cell? ⟨p,0,none⟩=some v) (hm:w.cell? ⟨p,1,none⟩=some (.map (some pm))) (hM:MapIs w pm E) (hown:w.ownsRow B 131 4 v n xs) (_hn:n≤4096)
  (hnm:i.nm.size≤1048576) (hold:(zbx E).any (fun y=>eqW y i.nm)=true) :
  Calls Tryz.prog 100 #[.pointer (some ⟨p,0,none⟩),stm i.sort i.line i.word i.a i.b i.c i.n i.nm] w fun e w'=>e=zak 3 i.line∧Below w.heap.size w w':=by
 have lg:p<w.heap.size:=World.block_lt_of_cell? w _ hc;have hne4:¬w.heap.size=p:=by omega
 have hne5:¬p=w.heap.size:=by omega
 obtain⟨ao,cap,rfl⟩:=zba hown;have d:=zlC ((w.alloc (.cells #[.int .i64 i.sort,.int .i64 i.line,.string i.word,.int .i64 i.a,.int .i64 i.b,.int .i64 i.c,.int .i64 i.n,.string i.nm] 135)).drew) pm E (hM.alloc _).drew i.sort i.line i.word i.a i.b i.c i.n i.nm (n:Int) hnm hold;go_enter Tryz.func100,Tryz.ntmps100;go_wp2_with fail
 go_region_dies
 all_goals(go_at_call 131;refine d.mono ?_;rintro e w2 ⟨rfl,f⟩)
 all_goals exact⟨rfl,rfl,zn3 _ _ f⟩
theorem ztb(w:World)(B p pm n:Nat)(v:Value)(xs:List Value)(i:It)(E:List (ByteArray × Nat))
  (hc:w.cell? ⟨p,0,none⟩=some v) (hm:w.cell? ⟨p,1,none⟩=some (.map (some pm))) (hf:w.frozen? ⟨p,0,none⟩=false) (hM:MapIs w pm E) (hown:w.ownsRow B 131 4 v n xs) (hne:v.ownBlock≠some p) (hB:B≤w.heap.size) (hn:n≤4096) (hnn:E.length≤4096)
  (hnm:i.nm.size≤1048576) (hold:(zbx E).any (fun y=>eqW y i.nm)=false) (hpm:¬p=pm) :
  Calls Tryz.prog 100 #[.pointer (some ⟨p,0,none⟩),stm i.sort i.line i.word i.a i.b i.c i.n i.nm] w fun e w'=>e=.returned (.tuple #[]) ∧
   ∃ g cap w1 w2,w'=w1.setCell ⟨p,0,none⟩ (.slice (some ⟨g,0,none⟩) (n+1) cap)∧w.grownBy w2 (some pm)∧MapIs w2 pm (E++[(i.nm,n)])∧w2.grownBy w1 v.ownBlock∧w.heap.size≤w2.heap.size∧MapIs w1 w2.heap.size [] ∧
    w1.ownsRow B 131 4 (.slice (some ⟨g,0,none⟩) (n+1) cap) (n+1) (xs++[.string i.nm,.int .i64 i.line,.slice none 0 0,.map (some w2.heap.size)])∧(v.ownBlock=some g∨w2.heap.size<g):=by
 obtain⟨X,F,H,I,J⟩:=info_parts Tryz.info131;have z:p<w.heap.size:=World.block_lt_of_cell? w _ hc;have lm:pm<w.heap.size:=hM.lt;have hne4:¬w.heap.size=p:=by omega
 have hne5:¬p=w.heap.size:=by omega
 have hlt:∀ b,v.ownBlock=some b→b<w.heap.size:=fun b hb=>(hown.lt b hb).2;have k:some p≠v.ownBlock:=fun e=>hne e.symm;have G:=zyz hM hown;have x:v.ownBlock=none∨v.ownBlock≠some pm:=.inr (fun e=>G e.symm);obtain⟨T,r,hbv⟩:=zba hown;have m:=hc;rw [hbv] at m;have j:=zlB ((w.alloc (.cells #[.int .i64 i.sort,.int .i64 i.line,.string i.word,.int .i64 i.a,.int .i64 i.b,.int .i64 i.c,.int .i64 i.n,.string i.nm] 135)).drew) pm E (hM.alloc _).drew i.sort i.line i.word i.a i.b i.c i.n i.nm n hn hnn hnm hold;obtain⟨M,K,N,O,P,Q,R,L⟩:=zvV w i.sort i.line i.word i.a i.b i.c i.n i.nm;go_enter Tryz.func100,Tryz.ntmps100;go_wp2_with fail
 go_region_held3 (fun w'=>w'.cell? ⟨p,0,none⟩=some (.slice T n r)∧w'.cell? ⟨p,1,none⟩=some (.map (some pm))∧w'.cell? ⟨w.heap.size,0,none⟩=some (.int .i64 i.sort)∧w'.cell? ⟨w.heap.size,1,none⟩=some (.int .i64 i.line)∧w'.cell? ⟨w.heap.size,2,none⟩=some (.string i.word) ∧
   w'.cell? ⟨w.heap.size,3,none⟩=some (.int .i64 i.a)∧w'.cell? ⟨w.heap.size,4,none⟩=some (.int .i64 i.b)∧w'.cell? ⟨w.heap.size,5,none⟩=some (.int .i64 i.c)∧w'.cell? ⟨w.heap.size,6,none⟩=some (.int .i64 i.n)∧w'.cell? ⟨w.heap.size,7,none⟩=some (.string i.nm))
  (first
    | go_keep
    | (refine⟨?_,?_,?_,?_,?_,?_,?_,?_,?_,?_⟩
       ·(exact(d.cell_far _ (by simp;omega) (by simp;omega)).trans ((zh1 w _ _ z).trans m))
       ·(exact(d.cell_far _ (by simp;omega) (by simp;omega)).trans ((zh1 w _ _ z).trans hm))
       ·(exact(d.cell_far _ (by simp) (by simp;omega)).trans M)
       ·(exact(d.cell_far _ (by simp) (by simp;omega)).trans K)
       ·(exact(d.cell_far _ (by simp) (by simp;omega)).trans N)
       ·(exact(d.cell_far _ (by simp) (by simp;omega)).trans O)
       ·(exact(d.cell_far _ (by simp) (by simp;omega)).trans P)
       ·(exact(d.cell_far _ (by simp) (by simp;omega)).trans Q)
       ·(exact(d.cell_far _ (by simp) (by simp;omega)).trans R)
       ·(exact(d.cell_far _ (by simp) (by simp;omega)).trans L)))
  (first|(go_at_call 131;refine j.mono ?_;rintro e w2 ⟨rfl,A,d⟩))
 have hsz2:w.heap.size+1≤w2.heap.size:=by have:=d.size;simpa using this
 have U:w2.cell? ⟨p,0,none⟩=some v:=(d.cell_far _ (by simp;omega) (by simp;omega)).trans ((zh1 w _ _ z).trans hc);have V:w2.frozen? ⟨p,0,none⟩=false:=(d.frozen_far _ (by simp;omega) (by simp;omega)).trans ((zjN w _ _ z).trans hf);replace K:=(d.cell_far ⟨w.heap.size,1,none⟩ (by simp) (by simp;omega)).trans K;replace L:=(d.cell_far ⟨w.heap.size,7,none⟩ (by simp) (by simp;omega)).trans L;have l:w2.ownsRow B 131 4 v n xs:=((hown.alloc _).drew).kept d x;have D:w.grownBy w2 (some pm):=zip d;clear j d m hc hm hf hM hown M N O P Q R;have S:p<w2.heap.size:=by omega
 have l3:w.heap.size<w2.heap.size:=by omega
 have hne6:¬w2.heap.size=p:=by omega
 have hne7:¬p=w2.heap.size:=by omega
 have hne8:¬w2.heap.size=w.heap.size:=by omega
 have hne9:¬w.heap.size=w2.heap.size:=by omega
 have o:=MapIs.made w2;have s:∀ b,v.ownBlock=some b→b<w2.heap.size:=fun b hb=>(l.lt b hb).2;have u:some w2.heap.size≠v.ownBlock:=fun e=>by have:=s _ e.symm;omega
 have hmk:=fun W=>zxR W;go_wp2_with fail
 go_region_law
  ((refine step_append_lies _ (by rfl) _ _ _ (by rfl) B 131 X _ 4 56 Tryz.under80 F H I J rfl (by omega) v n xs (by rw [hbv];rfl) (((l.alloc _).alloc _).drew)
     ⟨w2.heap.size+1,0,none⟩ 1 1 [.string i.nm,.int .i64 i.line,.slice none 0 0,.map (some w2.heap.size)] (by rfl) (by rfl) (World.news_of_block (cs:=#[.string i.nm,.int .i64 i.line,.slice none 0 0,.map (some w2.heap.size)]) (t:=131) (fr:=(0,0)) (zpn w2 _ _ _)) (by simp [Value.oneCell'])
     (by omega) (by unfold maxLen;omega) (by omega) (by simp;omega) (w2.heap.size+1+1) (by simp) ?_;intro g cap w1 q f C hltg;have hfz:w1.frozen? ⟨p,0,none⟩=false:=(f.frozen_far _ (by simp;omega) k).trans ((zjQ w2 _ _ _ S).trans V);have hcz:w1.cell? ⟨p,0,none⟩=some v:=(f.cell_far _ (by simp;omega) k).trans ((zpm w2 _ _ _ S).trans U)))
 all_goals go_end0
 all_goals exact⟨rfl,g,cap,w1,w2,rfl,D,A,zlP f,by omega,((o.alloc _).drew).kept f u,q,by rcases C with h|h;exact .inl h;exact .inr (by omega)⟩
end
end Go.Proofs.YtfpgjkbjbbgciaaGreatDoor
