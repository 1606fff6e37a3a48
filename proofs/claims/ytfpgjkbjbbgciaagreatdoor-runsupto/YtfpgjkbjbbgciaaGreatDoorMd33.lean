import Derived.Test.YtfpgjkbjbbgciaaGreatDoorMd32
set_option maxRecDepth 100000
set_option maxHeartbeats 8000000
namespace Go.Proofs.YtfpgjkbjbbgciaaGreatDoor
open Go.RowKit Sp
def zdB(w:World)(_l _r:Rg)(q:Option (Rg × Rg)):Ending→World→Prop:=fun e w'=>Below w.heap.size w w'∧match q with
 | none=>∃ a b,e=.returned (.tuple #[rv a,rv b,.bool false])
 | some (a,b)=>e=.returned (.tuple #[rv a,rv b,.bool true])
theorem znn{fn:Func}{a b c:Tmp}{t:TypeId}(h:fn.results=#[.cell a t,.cell b t,.tmp c])(tmps:Array Value)(p q:Addr)(hp:tmps.getD a undef=.pointer (some p))(hq:tmps.getD b undef=.pointer (some q)){P:Program}{w:World}{u v:Value}(hl:(loadVar t p).run P w=.ok u w)(hm:(loadVar t q).run P w=.ok v w):(results fn tmps).run P w=.ok (.tuple #[u,v,tmps.getD c undef]) w:=by
 have hp2:tmps[a]?.getD undef=.pointer (some p):=by simpa using hp
 have hq2:tmps[b]?.getD undef=.pointer (some q):=by simpa using hq
 simp [results,h,hp2,hq2,asAddr,hl,hm]
theorem zdC{fn:Func}{a b c:Tmp}{Q:Ending→World→Prop}{X:World}{act:Act}{p q:Nat}{l r:Rg}{x:Bool}(hr:fn.results=#[.cell a 213,.cell b 213,.tmp c])(hp:act.tmps.getD a undef=.pointer (some ⟨p,0,none⟩))(hq:act.tmps.getD b undef=.pointer (some ⟨q,0,none⟩))(hc:act.tmps.getD c undef=.bool x)(hd:act.defers=[])
  (h0:X.cell? ⟨p,0,none⟩=some (.int .i64 l.lo)) (h1:X.cell? ⟨p,1,none⟩=some (.int .i64 l.hi)) (h2:X.cell? ⟨q,0,none⟩=some (.int .i64 r.lo)) (h3:X.cell? ⟨q,1,none⟩=some (.int .i64 r.hi)) (hQ:Q (.returned (.tuple #[rv l,rv r,.bool x])) X):bodyPost Tryz.prog fn Q .ret act X:=by
 have h:=znn hr act.tmps ⟨p,0,none⟩ ⟨q,0,none⟩ hp hq (znm h0 h1) (znm h2 h3)
 rw [hc] at h
 exact bodyPost_ret h hd hQ
theorem za5(w:World)(a b c:Obj)(cs:Array Value)(t:TypeId)(j:Nat):((((w.alloc a).alloc b).alloc c).alloc (.cells cs t)).cell? ⟨w.heap.size+1+1+1,j,none⟩=cs[j]?:=by
 have h:=World.cell?_alloc_new (w:=((w.alloc a).alloc b).alloc c) cs t j
 rw [show(((w.alloc a).alloc b).alloc c).heap.size=w.heap.size+1+1+1 by simp] at h
 exact h
theorem zaH(w:World)(a b d:Obj)(cs:Array Value)(t:TypeId)(j:Nat):((((w.alloc a).alloc b).alloc (.cells cs t)).alloc d).cell? ⟨w.heap.size+1+1,j,none⟩=cs[j]?:=by
 rw [←zaB w a b cs t j]
 exact World.cell?_of_block (w:=((w.alloc a).alloc b).alloc (.cells cs t)) (((Below.refl (((w.alloc a).alloc b).alloc (.cells cs t)).heap.size (((w.alloc a).alloc b).alloc (.cells cs t))).alloc (Nat.le_refl _) d).block (w.heap.size+1+1) (by simp))
theorem zfX(w:World)(a b c d:Obj)(x y:Int):(((((w.alloc a).alloc b).alloc c).alloc d).alloc (.cells #[.int .i64 x,.int .i64 y] 213)).cell? ⟨w.heap.size+1+1+1+1,0,none⟩=some (.int .i64 x)∧(((((w.alloc a).alloc b).alloc c).alloc d).alloc (.cells #[.int .i64 x,.int .i64 y] 213)).cell? ⟨w.heap.size+1+1+1+1,1,none⟩=some (.int .i64 y):=by
 have h:=fun j=>World.cell?_alloc_new (w:=(((w.alloc a).alloc b).alloc c).alloc d) #[.int .i64 x,.int .i64 y] 213 j
 rw [show((((w.alloc a).alloc b).alloc c).alloc d).heap.size=w.heap.size+1+1+1+1 by simp] at h
 exact⟨h 0,h 1⟩
theorem zbE{w:World}{a b c d:Obj}:Below w.heap.size w ((((w.alloc a).alloc b).alloc c).alloc d):=zaK.alloc (by simp;omega) _
theorem zeD(w:World)(l r:Rg)(c d:Obj):
  ((((w.alloc (.cells #[.int .i64 l.lo,.int .i64 l.hi] 213)).alloc (.cells #[.int .i64 r.lo,.int .i64 r.hi] 213)).alloc c).alloc d).cell? ⟨w.heap.size,0,none⟩=some (.int .i64 l.lo)∧((((w.alloc (.cells #[.int .i64 l.lo,.int .i64 l.hi] 213)).alloc (.cells #[.int .i64 r.lo,.int .i64 r.hi] 213)).alloc c).alloc d).cell? ⟨w.heap.size,1,none⟩=some (.int .i64 l.hi) ∧
  ((((w.alloc (.cells #[.int .i64 l.lo,.int .i64 l.hi] 213)).alloc (.cells #[.int .i64 r.lo,.int .i64 r.hi] 213)).alloc c).alloc d).cell? ⟨w.heap.size+1,0,none⟩=some (.int .i64 r.lo)∧((((w.alloc (.cells #[.int .i64 l.lo,.int .i64 l.hi] 213)).alloc (.cells #[.int .i64 r.lo,.int .i64 r.hi] 213)).alloc c).alloc d).cell? ⟨w.heap.size+1,1,none⟩=some (.int .i64 r.hi) :=
 zbV box1 ⟨zbl _ _ _ _ _ 0,zbl _ _ _ _ _ 1,zc9 _ _ _ _ _ 0,zc9 _ _ _ _ _ 1⟩
theorem zv9(l r:Rg)(w:World)(hl:l.Ok)(hr:r.Ok):Calls Tryz.prog 271 #[rv l,rv r] w (zdB w l r (zeB l r)):=by
 unfold Rg.Ok i64 at hl hr
 by_cases h:r.hi≤l.lo
 ·have e0:zeB l r=none:=by unfold zeB;rw [if_pos h]
  rw [e0]
  go_enter Tryz.func271,Tryz.ntmps271
  go_wp2
  go_region
  all_goals go_wp2
  all_goals exact zdC Tryz.results271 rfl rfl rfl rfl (zaH _ _ _ _ _ _ 0) (zaH _ _ _ _ _ _ 1) (za5 _ _ _ _ _ _ 0) (za5 _ _ _ _ _ _ 1) ⟨zbE.drew,_,_,rfl⟩
 ·have e0:zeB l r=some (⟨l.lo,min l.hi (r.hi-1)⟩,⟨max (l.lo+1) r.lo,r.hi⟩):=by unfold zeB;rw [if_neg h]
  rw [e0]
  have hb1:=zcp l.lo (min l.hi (r.hi-1))
  have hb2:=zcp (max (l.lo+1) r.lo) r.hi
  have b1:l.lo+1≤9223372036854775807:=by omega
  have b0:-9223372036854775808≤l.lo+1:=by omega
  have b2:r.hi-1≤9223372036854775807:=by omega
  have b3:-9223372036854775808≤r.hi-1:=by omega
  have w1:IntKind.i64.wrap (r.hi-1)=r.hi-1:=by rw [zkl];exact zfV ⟨b3,b2⟩
  have w2:IntKind.i64.wrap (l.lo+1)=l.lo+1:=by rw [zkl];exact zfV ⟨b0,b1⟩
  have H1:=zeD w l r (.cells #[.int .i64 0,.int .i64 0] 213) (.cells #[.int .i64 0,.int .i64 0] 213)
  go_enter Tryz.func271,Tryz.ntmps271
  go_wp2
  go_region_held3 (fun W=>W.cell? ⟨w.heap.size,0,none⟩=some (.int .i64 l.lo)∧W.cell? ⟨w.heap.size,1,none⟩=some (.int .i64 l.hi)∧W.cell? ⟨w.heap.size+1,0,none⟩=some (.int .i64 r.lo)∧W.cell? ⟨w.heap.size+1,1,none⟩=some (.int .i64 r.hi))
   (first|exact H1|go_keep)
   (fail)
  all_goals go_wp2
  all_goals exact zdC (l:=⟨l.lo,min l.hi (r.hi-1)⟩) (r:=⟨max (l.lo+1) r.lo,r.hi⟩) Tryz.results271 rfl rfl rfl rfl (zaH _ _ _ _ _ _ 0) (zaH _ _ _ _ _ _ 1) (za5 _ _ _ _ _ _ 0) (za5 _ _ _ _ _ _ 1) ⟨zbE.drew,rfl⟩
theorem zno(l r:Rg)(w:World):Calls Tryz.prog 272 #[rv l,rv r] w (zdB w l r (zbv l r)):=by
 by_cases h:l.hi<r.lo
 ·have e0:zbv l r=none:=by unfold zbv;rw [if_pos h]
  rw [e0]
  go_enter Tryz.func272,Tryz.ntmps272
  go_wp2
  go_region
  all_goals go_wp2
  all_goals exact zdC Tryz.results272 rfl rfl rfl rfl (zaH _ _ _ _ _ _ 0) (zaH _ _ _ _ _ _ 1) (za5 _ _ _ _ _ _ 0) (za5 _ _ _ _ _ _ 1) ⟨zbE.drew,_,_,rfl⟩
 ·have e0:zbv l r=some (⟨max l.lo r.lo,l.hi⟩,⟨r.lo,min l.hi r.hi⟩):=by unfold zbv;rw [if_neg h]
  rw [e0]
  have hb1:=zcp (max l.lo r.lo) l.hi
  have hb2:=zcp r.lo (min l.hi r.hi)
  have H1:=zeD w l r (.cells #[.int .i64 0,.int .i64 0] 213) (.cells #[.int .i64 0,.int .i64 0] 213)
  go_enter Tryz.func272,Tryz.ntmps272
  go_wp2
  go_region_held3 (fun W=>W.cell? ⟨w.heap.size,0,none⟩=some (.int .i64 l.lo)∧W.cell? ⟨w.heap.size,1,none⟩=some (.int .i64 l.hi)∧W.cell? ⟨w.heap.size+1,0,none⟩=some (.int .i64 r.lo)∧W.cell? ⟨w.heap.size+1,1,none⟩=some (.int .i64 r.hi))
   (first|exact H1|go_keep)
   (fail)
  all_goals go_wp2
  all_goals exact zdC (l:=⟨max l.lo r.lo,l.hi⟩) (r:=⟨r.lo,min l.hi r.hi⟩) Tryz.results272 rfl rfl rfl rfl (zaH _ _ _ _ _ _ 0) (zaH _ _ _ _ _ _ 1) (za5 _ _ _ _ _ _ 0) (za5 _ _ _ _ _ _ 1) ⟨zbE.drew,rfl⟩
theorem zg8{w W0 w3:World}(hs0:W0.heap.size=w.heap.size+1+1+1+1)(k0:W0.cell? ⟨w.heap.size+1+1,0,none⟩=some (.int .i64 0)∧W0.cell? ⟨w.heap.size+1+1,1,none⟩=some (.int .i64 0)∧W0.cell? ⟨w.heap.size+1+1+1,0,none⟩=some (.int .i64 0)∧W0.cell? ⟨w.heap.size+1+1+1,1,none⟩=some (.int .i64 0))
  (kz:∀ j,W0.frozen? ⟨w.heap.size+1+1,j,none⟩=false∧W0.frozen? ⟨w.heap.size+1+1+1,j,none⟩=false) (hb:Below W0.heap.size W0 w3) :
  (w3.cell? ⟨w.heap.size+1+1,0,none⟩=some (.int .i64 0)∧w3.cell? ⟨w.heap.size+1+1,1,none⟩=some (.int .i64 0)∧w3.cell? ⟨w.heap.size+1+1+1,0,none⟩=some (.int .i64 0)∧w3.cell? ⟨w.heap.size+1+1+1,1,none⟩=some (.int .i64 0)) ∧
  w3.frozen? ⟨w.heap.size+1+1,0,none⟩=false∧w3.frozen? ⟨w.heap.size+1+1,1,none⟩=false∧w3.frozen? ⟨w.heap.size+1+1+1,0,none⟩=false∧w3.frozen? ⟨w.heap.size+1+1+1,1,none⟩=false:=by
 have z:∀ b j,b<W0.heap.size→w3.frozen? ⟨b,j,none⟩=W0.frozen? ⟨b,j,none⟩:=fun b j h=>World.frozen?_of_block (w:=W0) (a:=⟨b,j,none⟩) (hb.block b h)
 refine⟨zbV hb k0,?_,?_,?_,?_⟩
 ·rw [z _ _ (by omega)];exact(kz 0).1
 ·rw [z _ _ (by omega)];exact(kz 1).1
 ·rw [z _ _ (by omega)];exact(kz 0).2
 ·rw [z _ _ (by omega)];exact(kz 1).2
theorem zbi{W:World}{b c d:Nat}{x y v0 v1 v2 v3:Value}(n1:¬c=b)(n2:¬d=b)(h:W.cell? ⟨c,0,none⟩=some v0∧W.cell? ⟨c,1,none⟩=some v1∧W.cell? ⟨d,0,none⟩=some v2∧W.cell? ⟨d,1,none⟩=some v3):
  ((W.setCell ⟨b,0,none⟩ x).setCell ⟨b,1,none⟩ y).cell? ⟨c,0,none⟩=some v0∧((W.setCell ⟨b,0,none⟩ x).setCell ⟨b,1,none⟩ y).cell? ⟨c,1,none⟩=some v1∧((W.setCell ⟨b,0,none⟩ x).setCell ⟨b,1,none⟩ y).cell? ⟨d,0,none⟩=some v2∧((W.setCell ⟨b,0,none⟩ x).setCell ⟨b,1,none⟩ y).cell? ⟨d,1,none⟩=some v3:=by
 have e:∀(g o:Nat),¬g=b→((W.setCell ⟨b,0,none⟩ x).setCell ⟨b,1,none⟩ y).cell? ⟨g,o,none⟩=W.cell? ⟨g,o,none⟩:=fun g o hg=>by
  rw [World.cell?_setCell_other,World.cell?_setCell_other]
  all_goals simp
 rw [e c 0 n1,e c 1 n1,e d 0 n2,e d 1 n2]
 exact h
theorem zg9{W:World}{p q:Nat}{x0 x1 y0 y1 u0 u1 v0 v1:Value}(hne:¬p=q)(h:W.cell? ⟨p,0,none⟩=some u0∧W.cell? ⟨p,1,none⟩=some u1∧W.cell? ⟨q,0,none⟩=some v0∧W.cell? ⟨q,1,none⟩=some v1):
  ((((W.setCell ⟨p,0,none⟩ x0).setCell ⟨p,1,none⟩ x1).setCell ⟨q,0,none⟩ y0).setCell ⟨q,1,none⟩ y1).cell? ⟨p,0,none⟩=some x0∧((((W.setCell ⟨p,0,none⟩ x0).setCell ⟨p,1,none⟩ x1).setCell ⟨q,0,none⟩ y0).setCell ⟨q,1,none⟩ y1).cell? ⟨p,1,none⟩=some x1 ∧
  ((((W.setCell ⟨p,0,none⟩ x0).setCell ⟨p,1,none⟩ x1).setCell ⟨q,0,none⟩ y0).setCell ⟨q,1,none⟩ y1).cell? ⟨q,0,none⟩=some y0∧((((W.setCell ⟨p,0,none⟩ x0).setCell ⟨p,1,none⟩ x1).setCell ⟨q,0,none⟩ y0).setCell ⟨q,1,none⟩ y1).cell? ⟨q,1,none⟩=some y1:=by
 obtain⟨a1,a2⟩:=zau (v0:=x0) (v1:=x1) h.1 h.2.1
 have hne':¬q=p:=fun e=>hne e.symm
 have b:=zbi (b:=p) (x:=x0) (y:=x1) hne' hne' ⟨h.2.2.1,h.2.2.2,h.2.2.1,h.2.2.2⟩
 obtain⟨c1,c2⟩:=zau (v0:=y0) (v1:=y1) b.1 b.2.1
 have d:=zbi (b:=q) (x:=y0) (y:=y1) hne hne ⟨a1,a2,a1,a2⟩
 exact⟨d.1,d.2.1,c1,c2⟩
theorem zqJ(a b c d:Int)(w:World)(hl:Rg.Ok ⟨a,b⟩)(hr:Rg.Ok ⟨c,d⟩)(hne:¬a=c):Calls Tryz.prog 277 #[rv ⟨a,b⟩,rv ⟨c,d⟩] w (zdB w ⟨a,b⟩ ⟨c,d⟩ (zaI ⟨a,b⟩ ⟨c,d⟩)):=by
 have hq:zaI ⟨a,b⟩ ⟨c,d⟩=some ((⟨a,b⟩:Rg).without (⟨c,d⟩:Rg),(⟨c,d⟩:Rg).without (⟨a,b⟩:Rg)):=by unfold zaI;rw [if_neg (by dsimp only;omega)]
 rw [hq]
 have g1:=fun W=>zcY (⟨a,b⟩:Rg) (⟨c,d⟩:Rg) W hl (by dsimp only;omega)
 have g2:=fun W=>zcY (⟨c,d⟩:Rg) (⟨a,b⟩:Rg) W hr (by dsimp only;omega)
 have H1:=zeD w (⟨a,b⟩:Rg) (⟨c,d⟩:Rg) (.cells #[.int .i64 0,.int .i64 0] 213) (.cells #[.int .i64 0,.int .i64 0] 213)
 have hs0:((((w.alloc (.cells #[.int .i64 a,.int .i64 b] 213)).alloc (.cells #[.int .i64 c,.int .i64 d] 213)).alloc (.cells #[.int .i64 0,.int .i64 0] 213)).alloc (.cells #[.int .i64 0,.int .i64 0] 213)).heap.size=w.heap.size+1+1+1+1:=by simp
 have hB:Below w.heap.size w ((((w.alloc (.cells #[.int .i64 a,.int .i64 b] 213)).alloc (.cells #[.int .i64 c,.int .i64 d] 213)).alloc (.cells #[.int .i64 0,.int .i64 0] 213)).alloc (.cells #[.int .i64 0,.int .i64 0] 213)):=zbE
 have k0:((((w.alloc (.cells #[.int .i64 a,.int .i64 b] 213)).alloc (.cells #[.int .i64 c,.int .i64 d] 213)).alloc (.cells #[.int .i64 0,.int .i64 0] 213)).alloc (.cells #[.int .i64 0,.int .i64 0] 213)).cell? ⟨w.heap.size+1+1,0,none⟩=some (.int .i64 0)∧((((w.alloc (.cells #[.int .i64 a,.int .i64 b] 213)).alloc (.cells #[.int .i64 c,.int .i64 d] 213)).alloc (.cells #[.int .i64 0,.int .i64 0] 213)).alloc (.cells #[.int .i64 0,.int .i64 0] 213)).cell? ⟨w.heap.size+1+1,1,none⟩=some (.int .i64 0)∧((((w.alloc (.cells #[.int .i64 a,.int .i64 b] 213)).alloc (.cells #[.int .i64 c,.int .i64 d] 213)).alloc (.cells #[.int .i64 0,.int .i64 0] 213)).alloc (.cells #[.int .i64 0,.int .i64 0] 213)).cell? ⟨w.heap.size+1+1+1,0,none⟩=some (.int .i64 0)∧((((w.alloc (.cells #[.int .i64 a,.int .i64 b] 213)).alloc (.cells #[.int .i64 c,.int .i64 d] 213)).alloc (.cells #[.int .i64 0,.int .i64 0] 213)).alloc (.cells #[.int .i64 0,.int .i64 0] 213)).cell? ⟨w.heap.size+1+1+1,1,none⟩=some (.int .i64 0) :=
  ⟨zaH _ _ _ _ _ _ 0,zaH _ _ _ _ _ _ 1,za5 _ _ _ _ _ _ 0,za5 _ _ _ _ _ _ 1⟩
 have kz:∀ j,((((w.alloc (.cells #[.int .i64 a,.int .i64 b] 213)).alloc (.cells #[.int .i64 c,.int .i64 d] 213)).alloc (.cells #[.int .i64 0,.int .i64 0] 213)).alloc (.cells #[.int .i64 0,.int .i64 0] 213)).frozen? ⟨w.heap.size+1+1,j,none⟩=false∧((((w.alloc (.cells #[.int .i64 a,.int .i64 b] 213)).alloc (.cells #[.int .i64 c,.int .i64 d] 213)).alloc (.cells #[.int .i64 0,.int .i64 0] 213)).alloc (.cells #[.int .i64 0,.int .i64 0] 213)).frozen? ⟨w.heap.size+1+1+1,j,none⟩=false:=fun j =>
  ⟨(World.frozen?_alloc_past _ _ _ (by simp)).trans (zeZ _ _ _ _ _ j),World.frozen?_alloc_at _ _ _ _ (by simp)⟩
 clear hl hr hq
 generalize (⟨a,b⟩:Rg).without (⟨c,d⟩:Rg)=A at g1
 generalize (⟨c,d⟩:Rg).without (⟨a,b⟩:Rg)=B at g2
 have m1:¬w.heap.size=w.heap.size+1+1:=by omega
 have m2:¬w.heap.size+1=w.heap.size+1+1:=by omega
 have m3:¬w.heap.size=w.heap.size+1+1+1:=by omega
 have m4:¬w.heap.size+1=w.heap.size+1+1+1:=by omega
 have t1:(a == c)=false:=by simpa using hne
 go_enter Tryz.func277,Tryz.ntmps277
 go_wp2_with fail
 generalize (((w.alloc (.cells #[.int .i64 a,.int .i64 b] 213)).alloc (.cells #[.int .i64 c,.int .i64 d] 213)).alloc (.cells #[.int .i64 0,.int .i64 0] 213)).alloc (.cells #[.int .i64 0,.int .i64 0] 213)=W0 at hs0 hB k0 kz H1
 go_region_held3 (fun W=>W.cell? ⟨w.heap.size,0,none⟩=some (.int .i64 a)∧W.cell? ⟨w.heap.size,1,none⟩=some (.int .i64 b)∧W.cell? ⟨w.heap.size+1,0,none⟩=some (.int .i64 c)∧W.cell? ⟨w.heap.size+1,1,none⟩=some (.int .i64 d))
  (first|(with_reducible exact H3)|(with_reducible exact H2)|(with_reducible exact zbi m1 m2 H3)|(with_reducible exact zbi m3 m4 H3)|(with_reducible exact zbi m3 m4 (zbi m1 m2 H3))|(with_reducible exact zbi m1 m2 (zbi m3 m4 H3))|exact H1)
  (first|(go_at_call 278;(with_reducible refine(g1 _).mono ?_);rintro e w2 ⟨rfl,hb2⟩;have H2:=zbV hb2 H1)|(go_at_call 278;(with_reducible refine(g2 _).mono ?_);rintro e w3 ⟨rfl,hb3⟩;have H3:=zbV hb3 H2;have hb03:Below W0.heap.size W0 w3:=((Below.refl _ _).drew).trans (hb2.trans (hb3.mono hb2.size));obtain⟨⟨q1,q2,q3,q4⟩,f1,f2,f3,f4⟩:=zg8 hs0 k0 kz hb03))
 have hb03:Below W0.heap.size W0 w3:=((Below.refl _ _).drew).trans (hb2.trans (hb3.mono hb2.size))
 have hbw:=hB.trans (hb03.mono hB.size)
 have R:=zg9 (x0:=.int .i64 A.lo) (x1:=.int .i64 A.hi) (y0:=.int .i64 B.lo) (y1:=.int .i64 B.hi) (show ¬w.heap.size+1+1=w.heap.size+1+1+1 by omega) ⟨q1,q2,q3,q4⟩
 have hX:Below w.heap.size w ((((w3.setCell ⟨w.heap.size+1+1,0,none⟩ (.int .i64 A.lo)).setCell ⟨w.heap.size+1+1,1,none⟩ (.int .i64 A.hi)).setCell ⟨w.heap.size+1+1+1,0,none⟩ (.int .i64 B.lo)).setCell ⟨w.heap.size+1+1+1,1,none⟩ (.int .i64 B.hi)):=zaz (zaz hbw (by omega)) (by omega)
 go_wp2
 exact zdC (l:=A) (r:=B) Tryz.results277 rfl rfl rfl rfl R.1 R.2.1 R.2.2.1 R.2.2.2 ⟨hX,rfl⟩
def zee(w:World)(L:List Said)(R:Int × Int):Ending→World→Prop:=fun e w' =>
 ∃ v,e=.returned (.tuple #[v,.int .i64 R.1,.int .i64 R.2])∧Below w.heap.size w w'∧(R.1=0→∃ g cap,v=.slice (some ⟨g,0,none⟩) L.length cap∧w.heap.size≤g∧LinesIn w' g L)
theorem zbH{w w':World}{L:List Said}{R:Int × Int}{a b:Int}(h:R=(a,b))(ha:¬a=0)(hb:Below w.heap.size w w'):zee w L R (.returned (.tuple #[.slice none 0 0,.int .i64 a,.int .i64 b])) w':=by
 subst h;exact⟨_,rfl,hb,fun h=>absurd h ha⟩
theorem zgv(s:ByteArray)(w:World)(hs:s.size≤1048576):
  Calls Tryz.prog 45 #[.string s] w fun e w'=>∃ g cap,e=.returned (.slice (some ⟨g,0,none⟩) (lines s).length cap)∧(lines s).length≤cap∧cap≤maxLen∧w.heap.size≤g∧g<w'.heap.size∧(∀ j (hj:j<(lines s).length),w'.cell? ⟨g,j,none⟩=some (.string (lines s)[j]))∧Below w.heap.size w w':=by
 refine(zrq s w hs).mono ?_
 rintro e w' ⟨v,rfl,hown,hb⟩
 obtain⟨g,cap,rfl,h1,h2,h3,h4,h5⟩:=znR hown (by have:=zfH s;omega)
 exact⟨g,cap,rfl,h1,h2,h3,h4,h5,hb⟩
theorem zla(x:ByteArray)(w:World)(hs:x.size≤1048576)(q:Said)(hq:Hid (say x=q)):
  Calls Tryz.prog 46 #[.string x] w fun e w'=>∃ ao m c,e=.returned (.tuple #[.agg #[.int .u8 q.kind,.slice ao m c],.bool q.ok])∧w'.ownsRow w.heap.size 9 1 (.slice ao m c) q.kept.length (q.kept.map Value.string)∧Below w.heap.size w w':=by
 refine(zw0 x w hs).mono ?_
 rw [hq.out]
 rintro e w' ⟨v,rfl,hown,hb⟩
 rcases hown.2 with ⟨h1,_⟩|⟨g,cap,cur,hv,_⟩
 ·subst h1;exact⟨_,_,_,rfl,hown,hb⟩
 ·subst hv;exact⟨_,_,_,rfl,hown,hb⟩
theorem zuP(x:ByteArray):0≤(say x).kind∧(say x).kind≤255:=by
 unfold say sayW
 repeat' split
 all_goals exact⟨by simp,by simp⟩
theorem zsm(w:World)(o:Obj)(a b:Value)(t:TypeId):∀ j u,[a,b][j]?=some u→((w.alloc o).alloc (.cells #[a,b] t)).cell? ((⟨w.heap.size+1,0,none⟩:Addr).add j)=some u:=by
 intro j u hj
 match j,hj with
 | 0,hj=>simp at hj;subst hj;simp [Addr.add]
 | 1,hj=>simp at hj;subst hj;simp [Addr.add]
theorem zwR(k:Int)(ao:Option Addr)(m c:Nat):∀ u∈[Value.int .u8 k,Value.slice ao m c],u.oneCell'=true:=by
 intro u hu
 simp at hu
 rcases hu with rfl|rfl <;> rfl
theorem zuQ(s:ByteArray)(w:World)(hs:s.size≤1048576)(h:4000<s.size∨300<(lines s).length):
  Calls Tryz.prog 16 #[.string s] w (zee w ((lines s).map say) (zbw s)):=by
 have HR:Hid (zbw s=(6,0)):=by unfold Hid zbw;rw [if_pos h]
 have hl:=zfH s
 by_cases h4:4000<s.size
 ·go_enter Tryz.func16,Tryz.ntmps16
  go_wp2_with(go_at_call 45;refine(zgv s _ hs).mono ?_;rintro e w1 ⟨g,cap,rfl,hcap,hmx,hg,hg2,hcl,hb⟩)
  go_ret3
  exact zbH HR.out (by decide) hb
 ·have h3:300<(lines s).length:=by omega
  go_enter Tryz.func16,Tryz.ntmps16
  go_wp2_with(go_at_call 45;refine(zgv s _ hs).mono ?_;rintro e w1 ⟨g,cap,rfl,hcap,hmx,hg,hg2,hcl,hb⟩)
  go_ret3
  exact zbH HR.out (by decide) hb
theorem zsn(s:ByteArray)(w:World)(h4:s.size≤4000)(h3:(lines s).length≤300):
  Calls Tryz.prog 16 #[.string s] w (zee w ((lines s).map say) (zbw s)):=by
 obtain⟨i0,hi,hz0,hz1,hz2⟩:=info_parts Tryz.info87
 have hR:zbw s=zbG (lines s) 0:=by unfold zbw;rw [if_neg (by omega)]
 generalize hRR:zbw s=R at hR
 have HR:Hid (R=zbG (lines s) 0):=hR
 clear hR hRR
 have hl:=zfH s
 have hsz:=zdZ s
 have hcall:=zgv s w (by omega)
 generalize lines s=A at h3 HR hl hsz hcall ⊢
 obtain⟨hl1,hl2⟩:=hl
 go_enter Tryz.func16,Tryz.ntmps16
 go_wp2_with(go_at_call 45;refine hcall.mono ?_;rintro e w1 ⟨g,cap,rfl,hcap,hmx,hg,hg2,hcl,hb⟩)
 clear hcall
 go_loopw [6,7] (fun v ti wr=>∃(k:Nat) (P:List (Said × Value)),k≤A.length∧ti=.int .i64 (k:Int)∧P.length=k∧P.map Prod.fst=(A.take k).map say∧(∀ p∈P,Wf p.1)∧RowsIn w1.heap.size wr v P∧Below w1.heap.size w1 wr∧R=zbG A k) (fun _ ti _=>A.length-(intOf ti).toNat)
 case atStart=>exact⟨0,[],by omega,rfl,rfl,by simp,by simp,⟨World.ownsRow_nil _ _ _ _,by simp⟩,Below.refl _ _,HR.out⟩
 case round =>
  obtain⟨k,P,hk,rfl,hPl,hPm,hPw,hrows,hbr,hRk⟩:=hrel
  have HPl:Hid (P.length=k):=hPl
  have HPm:Hid (P.map Prod.fst=(A.take k).map say):=hPm
  clear HR hPl hPm
  have HR:Hid (R=zbG A k):=hRk
  clear hRk
  have hsw:=hbr.size
  by_cases hlt:k<A.length
  ·have hck:=(hbr.cell (p:=⟨g,k,none⟩) hg2).trans (hcl k hlt)
   have hAk:=hsz A[k] (List.getElem_mem hlt)
   have HW:Hid ((say A[k]).ok=true→Wf (say A[k])):=zrC A[k]
   have hkd:=zuP A[k]
   have HS0:Hid (say A[k]=say A[k]):=rfl
   have HB:Hid ((say A[k]).ok=false→R=(1,(k:Int)+1)):=fun h=>HR.out.trans (zdI A k hlt h)
   have HO:Hid ((say A[k]).ok=true→R=zbG A (k+1)):=fun h=>HR.out.trans (zeP A k hlt h)
   have HM:Hid (P.map Prod.fst++[say A[k]]=(A.take (k+1)).map say):=by
    unfold Hid;rw [HPm.out,List.take_succ_eq_append_getElem hlt,List.map_append];rfl
   generalize hq:say A[k]=q at HW hkd HB HO HM
   have HS:Hid (say A[k]=q):=hq
   clear hq HS0
   obtain⟨hkd0,hkd1⟩:=hkd
   cases hok:q.ok with
   | false =>
    go_wp2_with(go_at_call 46;refine(zla A[k] _ (by omega) q HS).mono ?_;rintro e w2 ⟨ao,m,c,rfl,hown2,hb2⟩)
    go_ret3
    refine zbH (HB.out hok) (by decide) ?_
    exact(hb.trans (((hbr.mono (by have:=hb.size;omega)).trans (hb2.mono (by have:=hb.size;omega))))).alloc (by have:=hb.size;have:=hb2.size;omega) _
   | true =>
    have hPlen:=HPl.out
    have hPb:P.length≤300:=by omega
    clear hPlen
    go_wp2_with(first
     | (go_at_call 46;refine(zla A[k] _ (by omega) q HS).mono ?_;rintro e w2 ⟨ao,m,c,rfl,hown2,hb2⟩;have hrows2:=hrows.below hb2 (Nat.le_refl _);have hsz2:=hb2.size)
     | (at_builtin;refine wpList_append_own _ rfl _ _ 25 rfl w1.heap.size 87 i0 (.agg #[.int .u8 0,.slice none 0 0]) 2 32 Tryz.under25 hi hz0 hz1 hz2 rfl (by decide) _ _ _ rfl ((hrows2.alloc _).alloc _).row ⟨w2.heap.size+1,0,none⟩ 1 1 [.int .u8 q.kind,.slice ao m c] rfl rfl (zsm _ _ _ _ _) (zwR _ _ _ _) (by unfold maxLen;omega) (by omega) (by simp;omega) ?_))
    intro v' w3 hown' hgrow _
    have hrows3:=((hrows2.alloc _).alloc _).grown ((zb7 hown2 hsw).alloc _ |>.alloc _) hgrow hown'
    have hb3:Below w1.heap.size w1 w3:=(((hbr.trans (hb2.mono hsw)).alloc (by omega) _).alloc (by simp;omega) _).grown hgrow (by simp;omega) (fun j hj=>(hrows.row.lt j hj).1)
    clear hgrow hown' hrows2 hown2 hrows hb2
    go_wp2
    go_roundw
    case rel=>exact⟨k+1,P++[(q,.slice ao m c)],by omega,by go_num,by have:=HPl.out;simp;omega,by rw [List.map_append];exact HM.out,by
     intro p hp
     rw [List.mem_append] at hp
     rcases hp with hp|hp
     ·exact hPw p hp
     ·simp at hp;subst hp;exact HW.out hok,hrows3,hb3,HO.out hok⟩
    case measure=>simp [intOf];omega
  ·have hPlen:=HPl.out
   have hkA:k=A.length:=by omega
   have hLm:P.map Prod.fst=A.map say:=by rw [HPm.out,hkA,List.take_length]
   obtain⟨g2,cap2,hv2,hg22,hlines⟩:=hrows.lines (by omega) hPw
   rw [hLm] at hlines
   have hPA:P.length=(A.map say).length:=by rw [←hLm];simp
   rw [hPA] at hv2
   have HR2:Hid (R=zbn (A.map say) 0):=HR.out.trans (zfG A k hlt)
   have hbw:Below w.heap.size w wr:=hb.trans (hbr.mono hb.size)
   have hLl:(A.map say).length≤300:=by simpa using h3
   have hg2w:w.heap.size≤g2:=by have:=hb.size;omega
   have hlt':A.length≤k:=by omega
   clear hPA hLm HPl HPm HR hPlen hPw hkA hlt
   obtain⟨L,hLd⟩:∃ L,L=A.map say:=⟨_,rfl⟩
   rw [←hLd] at hlines HR2 hLl hv2
   have HLd:Hid (L=A.map say):=hLd
   clear hLd
   rw [hv2]
   clear hcl hrows hsz
   go_wp2
   go_loop [10] (fun t=>∃ j:Nat,j≤L.length∧t=.int .i64 (j:Int)∧R=zbn L j) (fun t=>L.length-(intOf t).toNat)
   case atStart=>exact⟨0,by omega,rfl,HR2.out⟩
   case round =>
    obtain⟨j,hj,rfl,hRj⟩:=hrel
    clear HR2
    have HR:Hid (R=zbn L j):=hRj
    clear hRj
    by_cases hjlt:j<L.length
    ·have hc:=hlines.kind j hjlt
     have hkb:=zd8 (hlines.wf j hjlt)
     cases h0:(L[j].kind == 0) with
     | true =>
      have HQ:Hid (R=zbn L (j+1)):=HR.out.trans (zeO L j hjlt (by simpa using h0))
      go_wp2
      go_round
      case rel=>exact⟨j+1,by omega,by go_num,HQ.out⟩
      case measure=>simp [intOf];omega
     | false =>
      have hje:((j:Int) == (L.length:Int))=false:=by simp;omega
      cases h102:(L[j].kind != 102) with
      | true =>
       have HQ:Hid (R=(2,(j:Int)+1)):=HR.out.trans (zfF L j hjlt (by simpa using h0) (by simpa using h102))
       go_wp2
       go_ret3
       exact zbH HQ.out (by decide) hbw
      | false =>
       have HT:Hid (R=tail L 0):=HR.out.trans (zfE L j hjlt (by simpa using h0) (by simpa using h102))
       clear HR
       go_wp2
       clear hc hkb h0 hje h102
       go_loop [11] (fun t=>∃ q:Nat,q≤3∧t=.int .i64 (q:Int)∧R=tail L q) (fun t=>3-(intOf t).toNat)
       case atStart=>exact⟨0,by omega,rfl,HT.out⟩
       case round =>
        obtain⟨q,hq,rfl,hRq⟩:=hrel
        clear HT
        have HT:Hid (R=tail L q):=hRq
        clear hRq
        have hcases:q=0∨q=1∨q=2∨q=3:=by omega
        rcases hcases with rfl|rfl|rfl|rfl
        ·have HP0:Hid (R=pass L 0 0 (tail L 1)):=HT.out.trans (zh0 L 0 (by omega))
         clear HT
         go_wp2
         go_loop [12] (fun t=>∃ m:Nat,m≤L.length∧t=.int .i64 (m:Int)∧R=pass L 0 m (tail L 1)) (fun t=>L.length-(intOf t).toNat)
         case atStart=>exact⟨0,by omega,rfl,HP0.out⟩
         case round =>
          obtain⟨m,hm,rfl,hRm⟩:=hrel
          clear HP0
          have HP:Hid (R=pass L 0 m (tail L 1)):=hRm
          clear hRm
          by_cases hmlt:m<L.length
          ·cases hbad:zcF L m with
           | true =>
            have HQ:Hid (R=(3+((0:Nat):Int),(m:Int)+1)):=HP.out.trans (zdp L 0 m _ hmlt hbad)
            go_wp2_with(go_at_call 47;refine(zk4 L g2 cap2 m _ hlines (by omega) hmlt).mono ?_;rintro e w' ⟨rfl,rfl⟩)
            go_ret3
            exact zbH HQ.out (by decide) hbw
           | false =>
            have HQ:Hid (R=pass L 0 (m+1) (tail L 1)):=HP.out.trans (zcg L 0 m _ hmlt hbad)
            go_wp2_with(go_at_call 47;refine(zk4 L g2 cap2 m _ hlines (by omega) hmlt).mono ?_;rintro e w' ⟨rfl,rfl⟩)
            go_round
            case rel=>exact⟨m+1,by omega,by go_num,HQ.out⟩
            case measure=>simp [intOf];omega
          ·have HQ:Hid (R=tail L 1):=HP.out.trans (zd5 L 0 m _ hmlt)
           go_wp2
           go_round
           case rel=>exact⟨1,by omega,by go_num,HQ.out⟩
           case measure=>simp [intOf]
        ·have HP0:Hid (R=pass L 1 0 (tail L 2)):=HT.out.trans (zh0 L 1 (by omega))
         clear HT
         go_wp2
         go_loop [12] (fun t=>∃ m:Nat,m≤L.length∧t=.int .i64 (m:Int)∧R=pass L 1 m (tail L 2)) (fun t=>L.length-(intOf t).toNat)
         case atStart=>exact⟨0,by omega,rfl,HP0.out⟩
         case round =>
          obtain⟨m,hm,rfl,hRm⟩:=hrel
          clear HP0
          have HP:Hid (R=pass L 1 m (tail L 2)):=hRm
          clear hRm
          by_cases hmlt:m<L.length
          ·cases hbad:zaG L m with
           | true =>
            have HQ:Hid (R=(3+((1:Nat):Int),(m:Int)+1)):=HP.out.trans (zdp L 1 m _ hmlt hbad)
            go_wp2_with(go_at_call 48;refine(zhx L g2 cap2 m _ hlines (by omega) hmlt).mono ?_;rintro e w' ⟨rfl,rfl⟩)
            go_ret3
            exact zbH HQ.out (by decide) hbw
           | false =>
            have HQ:Hid (R=pass L 1 (m+1) (tail L 2)):=HP.out.trans (zcg L 1 m _ hmlt hbad)
            go_wp2_with(go_at_call 48;refine(zhx L g2 cap2 m _ hlines (by omega) hmlt).mono ?_;rintro e w' ⟨rfl,rfl⟩)
            go_round
            case rel=>exact⟨m+1,by omega,by go_num,HQ.out⟩
            case measure=>simp [intOf];omega
          ·have HQ:Hid (R=tail L 2):=HP.out.trans (zd5 L 1 m _ hmlt)
           go_wp2
           go_round
           case rel=>exact⟨2,by omega,by go_num,HQ.out⟩
           case measure=>simp [intOf]
        ·have HP0:Hid (R=pass L 2 0 (tail L 3)):=HT.out.trans (zh0 L 2 (by omega))
         clear HT
         go_wp2
         go_loop [12] (fun t=>∃ m:Nat,m≤L.length∧t=.int .i64 (m:Int)∧R=pass L 2 m (tail L 3)) (fun t=>L.length-(intOf t).toNat)
         case atStart=>exact⟨0,by omega,rfl,HP0.out⟩
         case round =>
          obtain⟨m,hm,rfl,hRm⟩:=hrel
          clear HP0
          have HP:Hid (R=pass L 2 m (tail L 3)):=hRm
          clear hRm
          by_cases hmlt:m<L.length
          ·cases hbad:zbm L m with
           | true =>
            have HQ:Hid (R=(3+((2:Nat):Int),(m:Int)+1)):=HP.out.trans (zdp L 2 m _ hmlt hbad)
            go_wp2_with(go_at_call 49;refine(zhz L g2 cap2 m _ hlines (by omega) hmlt).mono ?_;rintro e w' ⟨rfl,rfl⟩)
            go_ret3
            exact zbH HQ.out (by decide) hbw
           | false =>
            have HQ:Hid (R=pass L 2 (m+1) (tail L 3)):=HP.out.trans (zcg L 2 m _ hmlt hbad)
            go_wp2_with(go_at_call 49;refine(zhz L g2 cap2 m _ hlines (by omega) hmlt).mono ?_;rintro e w' ⟨rfl,rfl⟩)
            go_round
            case rel=>exact⟨m+1,by omega,by go_num,HQ.out⟩
            case measure=>simp [intOf];omega
          ·have HQ:Hid (R=tail L 3):=HP.out.trans (zd5 L 2 m _ hmlt)
           go_wp2
           go_round
           case rel=>exact⟨3,by omega,by go_num,HQ.out⟩
           case measure=>simp [intOf]
        ·have HQ:Hid (R=(0,0)):=HT.out
         clear HT
         go_wp2
         go_ret3
         have hq0:=HQ.out
         have hLd:=HLd.out
         subst hq0 hLd
         exact⟨_,rfl,hbw,fun _=>⟨g2,cap2,rfl,hg2w,hlines⟩⟩
    ·have hje:((j:Int) == (L.length:Int))=true:=by simp;omega
     have HQ:Hid (R=(2,0)):=HR.out.trans (zdX L j hjlt)
     go_wp2
     go_ret3
     exact zbH HQ.out (by decide) hbw
theorem zjQ(s:ByteArray)(w:World)(hs:s.size≤1048576):
  Calls Tryz.prog 16 #[.string s] w (zee w ((lines s).map say) (zbw s)):=by
 by_cases h:4000<s.size∨300<(lines s).length
 ·exact zuQ s w hs h
 ·exact zsn s w (by omega) (by omega)
end Go.Proofs.YtfpgjkbjbbgciaaGreatDoor
