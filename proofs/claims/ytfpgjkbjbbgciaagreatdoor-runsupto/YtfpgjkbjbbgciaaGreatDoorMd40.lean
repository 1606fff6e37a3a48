import Derived.Test.YtfpgjkbjbbgciaaGreatDoorMd37
import Derived.Test.YtfpgjkbjbbgciaaGreatDoorMd39
set_option maxRecDepth 100000
set_option maxHeartbeats 8000000
namespace Go.Proofs.YtfpgjkbjbbgciaaGreatDoor
open Go.RowKit Sp
theorem zqK(a b d:Int)(w:World)(hl:Rg.Ok ⟨a,b⟩)(hr:Rg.Ok ⟨a,d⟩)(hne:¬b=d):Calls Tryz.prog 277 #[rv ⟨a,b⟩,rv ⟨a,d⟩] w (zdB w ⟨a,b⟩ ⟨a,d⟩ (zaI ⟨a,b⟩ ⟨a,d⟩)):=by
 have hq:zaI ⟨a,b⟩ ⟨a,d⟩=some ((⟨a,b⟩:Rg).without (⟨a,d⟩:Rg),(⟨a,d⟩:Rg).without (⟨a,b⟩:Rg)):=by unfold zaI;rw [if_neg (by dsimp only;omega)]
 rw [hq]
 have g1:=fun W=>zcY (⟨a,b⟩:Rg) (⟨a,d⟩:Rg) W hl (by dsimp only;omega)
 have g2:=fun W=>zcY (⟨a,d⟩:Rg) (⟨a,b⟩:Rg) W hr (by dsimp only;omega)
 have H1:=zeD w (⟨a,b⟩:Rg) (⟨a,d⟩:Rg) (.cells #[.int .i64 0,.int .i64 0] 213) (.cells #[.int .i64 0,.int .i64 0] 213)
 have hs0:((((w.alloc (.cells #[.int .i64 a,.int .i64 b] 213)).alloc (.cells #[.int .i64 a,.int .i64 d] 213)).alloc (.cells #[.int .i64 0,.int .i64 0] 213)).alloc (.cells #[.int .i64 0,.int .i64 0] 213)).heap.size=w.heap.size+1+1+1+1:=by simp
 have hB:Below w.heap.size w ((((w.alloc (.cells #[.int .i64 a,.int .i64 b] 213)).alloc (.cells #[.int .i64 a,.int .i64 d] 213)).alloc (.cells #[.int .i64 0,.int .i64 0] 213)).alloc (.cells #[.int .i64 0,.int .i64 0] 213)):=zbE
 have k0:((((w.alloc (.cells #[.int .i64 a,.int .i64 b] 213)).alloc (.cells #[.int .i64 a,.int .i64 d] 213)).alloc (.cells #[.int .i64 0,.int .i64 0] 213)).alloc (.cells #[.int .i64 0,.int .i64 0] 213)).cell? ⟨w.heap.size+1+1,0,none⟩=some (.int .i64 0)∧((((w.alloc (.cells #[.int .i64 a,.int .i64 b] 213)).alloc (.cells #[.int .i64 a,.int .i64 d] 213)).alloc (.cells #[.int .i64 0,.int .i64 0] 213)).alloc (.cells #[.int .i64 0,.int .i64 0] 213)).cell? ⟨w.heap.size+1+1,1,none⟩=some (.int .i64 0)∧((((w.alloc (.cells #[.int .i64 a,.int .i64 b] 213)).alloc (.cells #[.int .i64 a,.int .i64 d] 213)).alloc (.cells #[.int .i64 0,.int .i64 0] 213)).alloc (.cells #[.int .i64 0,.int .i64 0] 213)).cell? ⟨w.heap.size+1+1+1,0,none⟩=some (.int .i64 0)∧((((w.alloc (.cells #[.int .i64 a,.int .i64 b] 213)).alloc (.cells #[.int .i64 a,.int .i64 d] 213)).alloc (.cells #[.int .i64 0,.int .i64 0] 213)).alloc (.cells #[.int .i64 0,.int .i64 0] 213)).cell? ⟨w.heap.size+1+1+1,1,none⟩=some (.int .i64 0) :=
  ⟨zaH _ _ _ _ _ _ 0,zaH _ _ _ _ _ _ 1,za5 _ _ _ _ _ _ 0,za5 _ _ _ _ _ _ 1⟩
 have kz:∀ j,((((w.alloc (.cells #[.int .i64 a,.int .i64 b] 213)).alloc (.cells #[.int .i64 a,.int .i64 d] 213)).alloc (.cells #[.int .i64 0,.int .i64 0] 213)).alloc (.cells #[.int .i64 0,.int .i64 0] 213)).frozen? ⟨w.heap.size+1+1,j,none⟩=false∧((((w.alloc (.cells #[.int .i64 a,.int .i64 b] 213)).alloc (.cells #[.int .i64 a,.int .i64 d] 213)).alloc (.cells #[.int .i64 0,.int .i64 0] 213)).alloc (.cells #[.int .i64 0,.int .i64 0] 213)).frozen? ⟨w.heap.size+1+1+1,j,none⟩=false:=fun j =>
  ⟨(World.frozen?_alloc_past _ _ _ (by simp)).trans (zeZ _ _ _ _ _ j),World.frozen?_alloc_at _ _ _ _ (by simp)⟩
 clear hl hr hq
 generalize (⟨a,b⟩:Rg).without (⟨a,d⟩:Rg)=A at g1
 generalize (⟨a,d⟩:Rg).without (⟨a,b⟩:Rg)=B at g2
 have m1:¬w.heap.size=w.heap.size+1+1:=by omega
 have m2:¬w.heap.size+1=w.heap.size+1+1:=by omega
 have m3:¬w.heap.size=w.heap.size+1+1+1:=by omega
 have m4:¬w.heap.size+1=w.heap.size+1+1+1:=by omega
 have t1:(b == d)=false:=by simpa using hne
 go_enter Tryz.func277,Tryz.ntmps277
 go_wp2_with fail
 generalize (((w.alloc (.cells #[.int .i64 a,.int .i64 b] 213)).alloc (.cells #[.int .i64 a,.int .i64 d] 213)).alloc (.cells #[.int .i64 0,.int .i64 0] 213)).alloc (.cells #[.int .i64 0,.int .i64 0] 213)=W0 at hs0 hB k0 kz H1
 go_region_held3 (fun W=>W.cell? ⟨w.heap.size,0,none⟩=some (.int .i64 a)∧W.cell? ⟨w.heap.size,1,none⟩=some (.int .i64 b)∧W.cell? ⟨w.heap.size+1,0,none⟩=some (.int .i64 a)∧W.cell? ⟨w.heap.size+1,1,none⟩=some (.int .i64 d))
  (first|(with_reducible exact H3)|(with_reducible exact H2)|(with_reducible exact zbi m1 m2 H3)|(with_reducible exact zbi m3 m4 H3)|(with_reducible exact zbi m3 m4 (zbi m1 m2 H3))|(with_reducible exact zbi m1 m2 (zbi m3 m4 H3))|exact H1)
  (first|(go_at_call 278;(with_reducible refine(g1 _).mono ?_);rintro e w2 ⟨rfl,hb2⟩;have H2:=zbV hb2 H1)|(go_at_call 278;(with_reducible refine(g2 _).mono ?_);rintro e w3 ⟨rfl,hb3⟩;have H3:=zbV hb3 H2;have hb03:Below W0.heap.size W0 w3:=((Below.refl _ _).drew).trans (hb2.trans (hb3.mono hb2.size));obtain⟨⟨q1,q2,q3,q4⟩,f1,f2,f3,f4⟩:=zg8 hs0 k0 kz hb03))
 have hb03:Below W0.heap.size W0 w3:=((Below.refl _ _).drew).trans (hb2.trans (hb3.mono hb2.size))
 have hbw:=hB.trans (hb03.mono hB.size)
 have R:=zg9 (x0:=.int .i64 A.lo) (x1:=.int .i64 A.hi) (y0:=.int .i64 B.lo) (y1:=.int .i64 B.hi) (show ¬w.heap.size+1+1=w.heap.size+1+1+1 by omega) ⟨q1,q2,q3,q4⟩
 have hX:Below w.heap.size w ((((w3.setCell ⟨w.heap.size+1+1,0,none⟩ (.int .i64 A.lo)).setCell ⟨w.heap.size+1+1,1,none⟩ (.int .i64 A.hi)).setCell ⟨w.heap.size+1+1+1,0,none⟩ (.int .i64 B.lo)).setCell ⟨w.heap.size+1+1+1,1,none⟩ (.int .i64 B.hi)):=zaz (zaz hbw (by omega)) (by omega)
 go_wp2
 exact zdC (l:=A) (r:=B) Tryz.results277 rfl rfl rfl rfl R.1 R.2.1 R.2.2.1 R.2.2.2 ⟨hX,rfl⟩
theorem zmf(a b:Int)(w:World)(hl:Rg.Ok ⟨a,b⟩)(hne:¬a=b):Calls Tryz.prog 277 #[rv ⟨a,b⟩,rv ⟨a,b⟩] w (zdB w ⟨a,b⟩ ⟨a,b⟩ (zaI ⟨a,b⟩ ⟨a,b⟩)):=by
 have hq:zaI ⟨a,b⟩ ⟨a,b⟩=some ((⟨a,b⟩:Rg).without (⟨a,b⟩:Rg),(⟨a,b⟩:Rg).without (⟨a,b⟩:Rg)):=by unfold zaI;rw [if_neg (by dsimp only;omega)]
 rw [hq]
 have g1:=fun W=>zcY (⟨a,b⟩:Rg) (⟨a,b⟩:Rg) W hl (by dsimp only;omega)
 have g2:=fun W=>zcY (⟨a,b⟩:Rg) (⟨a,b⟩:Rg) W hl (by dsimp only;omega)
 have H1:=zeD w (⟨a,b⟩:Rg) (⟨a,b⟩:Rg) (.cells #[.int .i64 0,.int .i64 0] 213) (.cells #[.int .i64 0,.int .i64 0] 213)
 have hs0:((((w.alloc (.cells #[.int .i64 a,.int .i64 b] 213)).alloc (.cells #[.int .i64 a,.int .i64 b] 213)).alloc (.cells #[.int .i64 0,.int .i64 0] 213)).alloc (.cells #[.int .i64 0,.int .i64 0] 213)).heap.size=w.heap.size+1+1+1+1:=by simp
 have hB:Below w.heap.size w ((((w.alloc (.cells #[.int .i64 a,.int .i64 b] 213)).alloc (.cells #[.int .i64 a,.int .i64 b] 213)).alloc (.cells #[.int .i64 0,.int .i64 0] 213)).alloc (.cells #[.int .i64 0,.int .i64 0] 213)):=zbE
 have k0:((((w.alloc (.cells #[.int .i64 a,.int .i64 b] 213)).alloc (.cells #[.int .i64 a,.int .i64 b] 213)).alloc (.cells #[.int .i64 0,.int .i64 0] 213)).alloc (.cells #[.int .i64 0,.int .i64 0] 213)).cell? ⟨w.heap.size+1+1,0,none⟩=some (.int .i64 0)∧((((w.alloc (.cells #[.int .i64 a,.int .i64 b] 213)).alloc (.cells #[.int .i64 a,.int .i64 b] 213)).alloc (.cells #[.int .i64 0,.int .i64 0] 213)).alloc (.cells #[.int .i64 0,.int .i64 0] 213)).cell? ⟨w.heap.size+1+1,1,none⟩=some (.int .i64 0)∧((((w.alloc (.cells #[.int .i64 a,.int .i64 b] 213)).alloc (.cells #[.int .i64 a,.int .i64 b] 213)).alloc (.cells #[.int .i64 0,.int .i64 0] 213)).alloc (.cells #[.int .i64 0,.int .i64 0] 213)).cell? ⟨w.heap.size+1+1+1,0,none⟩=some (.int .i64 0)∧((((w.alloc (.cells #[.int .i64 a,.int .i64 b] 213)).alloc (.cells #[.int .i64 a,.int .i64 b] 213)).alloc (.cells #[.int .i64 0,.int .i64 0] 213)).alloc (.cells #[.int .i64 0,.int .i64 0] 213)).cell? ⟨w.heap.size+1+1+1,1,none⟩=some (.int .i64 0) :=
  ⟨zaH _ _ _ _ _ _ 0,zaH _ _ _ _ _ _ 1,za5 _ _ _ _ _ _ 0,za5 _ _ _ _ _ _ 1⟩
 have kz:∀ j,((((w.alloc (.cells #[.int .i64 a,.int .i64 b] 213)).alloc (.cells #[.int .i64 a,.int .i64 b] 213)).alloc (.cells #[.int .i64 0,.int .i64 0] 213)).alloc (.cells #[.int .i64 0,.int .i64 0] 213)).frozen? ⟨w.heap.size+1+1,j,none⟩=false∧((((w.alloc (.cells #[.int .i64 a,.int .i64 b] 213)).alloc (.cells #[.int .i64 a,.int .i64 b] 213)).alloc (.cells #[.int .i64 0,.int .i64 0] 213)).alloc (.cells #[.int .i64 0,.int .i64 0] 213)).frozen? ⟨w.heap.size+1+1+1,j,none⟩=false:=fun j =>
  ⟨(World.frozen?_alloc_past _ _ _ (by simp)).trans (zeZ _ _ _ _ _ j),World.frozen?_alloc_at _ _ _ _ (by simp)⟩
 clear hl hq
 generalize (⟨a,b⟩:Rg).without (⟨a,b⟩:Rg)=A at g1 g2
 have m1:¬w.heap.size=w.heap.size+1+1:=by omega
 have m2:¬w.heap.size+1=w.heap.size+1+1:=by omega
 have m3:¬w.heap.size=w.heap.size+1+1+1:=by omega
 have m4:¬w.heap.size+1=w.heap.size+1+1+1:=by omega
 have t1:(a == b)=false:=by simpa using hne
 go_enter Tryz.func277,Tryz.ntmps277
 go_wp2_with fail
 generalize (((w.alloc (.cells #[.int .i64 a,.int .i64 b] 213)).alloc (.cells #[.int .i64 a,.int .i64 b] 213)).alloc (.cells #[.int .i64 0,.int .i64 0] 213)).alloc (.cells #[.int .i64 0,.int .i64 0] 213)=W0 at hs0 hB k0 kz H1
 go_region_held3 (fun W=>W.cell? ⟨w.heap.size,0,none⟩=some (.int .i64 a)∧W.cell? ⟨w.heap.size,1,none⟩=some (.int .i64 b)∧W.cell? ⟨w.heap.size+1,0,none⟩=some (.int .i64 a)∧W.cell? ⟨w.heap.size+1,1,none⟩=some (.int .i64 b))
  (first|(with_reducible exact H3)|(with_reducible exact H2)|(with_reducible exact zbi m1 m2 H3)|(with_reducible exact zbi m3 m4 H3)|(with_reducible exact zbi m3 m4 (zbi m1 m2 H3))|(with_reducible exact zbi m1 m2 (zbi m3 m4 H3))|exact H1)
  (first|(go_at_call 278;(with_reducible refine(g1 _).mono ?_);rintro e w2 ⟨rfl,hb2⟩;have H2:=zbV hb2 H1)|(go_at_call 278;(with_reducible refine(g2 _).mono ?_);rintro e w3 ⟨rfl,hb3⟩;have H3:=zbV hb3 H2;have hb03:Below W0.heap.size W0 w3:=((Below.refl _ _).drew).trans (hb2.trans (hb3.mono hb2.size));obtain⟨⟨q1,q2,q3,q4⟩,f1,f2,f3,f4⟩:=zg8 hs0 k0 kz hb03))
 have hb03:Below W0.heap.size W0 w3:=((Below.refl _ _).drew).trans (hb2.trans (hb3.mono hb2.size))
 have hbw:=hB.trans (hb03.mono hB.size)
 have R:=zg9 (x0:=.int .i64 A.lo) (x1:=.int .i64 A.hi) (y0:=.int .i64 A.lo) (y1:=.int .i64 A.hi) (show ¬w.heap.size+1+1=w.heap.size+1+1+1 by omega) ⟨q1,q2,q3,q4⟩
 have hX:Below w.heap.size w ((((w3.setCell ⟨w.heap.size+1+1,0,none⟩ (.int .i64 A.lo)).setCell ⟨w.heap.size+1+1,1,none⟩ (.int .i64 A.hi)).setCell ⟨w.heap.size+1+1+1,0,none⟩ (.int .i64 A.lo)).setCell ⟨w.heap.size+1+1+1,1,none⟩ (.int .i64 A.hi)):=zaz (zaz hbw (by omega)) (by omega)
 go_wp2
 exact zdC (l:=A) (r:=A) Tryz.results277 rfl rfl rfl rfl R.1 R.2.1 R.2.2.1 R.2.2.2 ⟨hX,rfl⟩
theorem zn4(x:Int)(w:World):Calls Tryz.prog 277 #[rv ⟨x,x⟩,rv ⟨x,x⟩] w (zdB w ⟨x,x⟩ ⟨x,x⟩ none):=by
 go_enter Tryz.func277,Tryz.ntmps277
 go_wp2
 go_region
 all_goals go_wp2
 all_goals exact zdC (l:=⟨x,x⟩) (r:=⟨x,x⟩) Tryz.results277 rfl rfl rfl rfl (zaH _ _ _ _ _ _ 0) (zaH _ _ _ _ _ _ 1) (za5 _ _ _ _ _ _ 0) (za5 _ _ _ _ _ _ 1) ⟨zbE.drew,_,_,rfl⟩
theorem zn5(l r:Rg)(w:World)(hl:l.Ok)(hr:r.Ok):Calls Tryz.prog 277 #[rv l,rv r] w (zdB w l r (zaI l r)):=by
 obtain⟨a,b⟩:=l
 obtain⟨c,d⟩:=r
 by_cases h1:a=c
 ·subst h1
  by_cases h2:b=d
  ·subst h2
   by_cases h3:a=b
   ·subst h3
    rw [show zaI ⟨a,a⟩ ⟨a,a⟩=none from by unfold zaI;rw [if_pos ⟨⟨rfl,rfl⟩,rfl⟩]]
    exact zn4 a w
   ·exact zmf a b w hl h3
  ·exact zqK a b d w hl hr h2
 ·exact zqJ a b c d w hl hr h1
def zbh(f g:Nat→Rg)(j:Nat):Nat→Rg:=fun i=>if i<j then(f i).or (g i) else f i
theorem zih(f g:Nat→Rg):zbh f g 0=f:=by funext i;simp [zbh]
theorem zlQ(f g:Nat→Rg)(j:Nat):zbh f g j j=f j:=by simp [zbh]
theorem zii(f g:Nat→Rg)(j:Nat):updR (zbh f g j) j ((f j).or (g j))=zbh f g (j+1):=by
 funext i
 unfold updR zbh
 by_cases e:i=j
 ·subst e;rw [if_pos rfl,if_pos (by omega)]
 ·rw [if_neg e]
  by_cases e2:i<j
  ·rw [if_pos e2,if_pos (by omega)]
  ·rw [if_neg e2,if_neg (by omega)]
theorem KnM.like{w:World}{b:Nat}{bv:Value}{k k2:Kn}(h:KnM w b bv k)(h1:∀ r,r<8→k2.regs r=k.regs r)(h2:∀ c,c<16→k2.cells c=k.cells c)(h3:k2.next=k.next)(h4:k2.steps=k.steps):KnM w b bv k2 :=
 ⟨fun r hr=>by rw [h1 r hr];exact h.cR r hr,fun c hc=>by rw [h2 c hc];exact h.cC c hc,by rw [h3];exact h.cN,h.cB,by rw [h4];exact h.cS,h.fz⟩
theorem zyr{w:World}{b:Nat}{bv:Value}{k o:Kn}(h:KnM w b bv { k with regs:=zbh k.regs o.regs 8,cells:=zbh k.cells o.cells 16 }):KnM w b bv (zf1 k o) :=
 h.like (fun r hr=>by show _=zbh k.regs o.regs 8 r;unfold zbh;rw [if_pos hr];rfl) (fun r hr=>by show _=zbh k.cells o.cells 16 r;unfold zbh;rw [if_pos hr];rfl) rfl rfl
structure JnM(w wr:World)(b c:Nat)(bv cv:Value)(k o:Kn):Prop where
 kn:KnM wr b bv k
 ot:KnM wr c cv o
 low:w.grownBy wr (some b)
theorem JnM.below{w wr wy:World}{b c:Nat}{bv cv:Value}{k o:Kn}(L:JnM w wr b c bv cv k o)(hb:Below wr.heap.size wr wy):JnM w wy b c bv cv k o :=
 ⟨L.kn.below hb L.kn.lt,L.ot.below hb L.ot.lt,zag L.low ⟨hb.os,hb.tape,hb.output,hb.size,fun q hq _=>hb.block q hq⟩⟩
theorem KnM.other{w:World}{b c n:Nat}{v cv:Value}{o:Kn}(h:KnM w c cv o)(hne:¬c=b):KnM (w.setCell ⟨b,n,none⟩ v) c cv o:=h.block (Below.heap_setCell w _ _ c hne)
theorem JnM.putR{w wr:World}{b c:Nat}{bv cv:Value}{k o:Kn}(L:JnM w wr b c bv cv k o)(hne:¬c=b)(a:Nat)(ha:a<8)(u:Rg):JnM w ((wr.setCell ⟨b,a*2,none⟩ (.int .i64 u.lo)).setCell ⟨b,a*2+1,none⟩ (.int .i64 u.hi)) b c bv cv { k with regs:=updR k.regs a u } o :=
 ⟨L.kn.putR a ha u,(L.ot.other hne).other hne,zag L.low (zag (zac (Below.refl _ _)) (zac (Below.refl _ _)))⟩
theorem JnM.putC{w wr:World}{b c:Nat}{bv cv:Value}{k o:Kn}(L:JnM w wr b c bv cv k o)(hne:¬c=b)(a:Nat)(ha:a<16)(u:Rg):JnM w ((wr.setCell ⟨b,16+a*2,none⟩ (.int .i64 u.lo)).setCell ⟨b,16+a*2+1,none⟩ (.int .i64 u.hi)) b c bv cv { k with cells:=updR k.cells a u } o :=
 ⟨L.kn.putC a ha u,(L.ot.other hne).other hne,zag L.low (zag (zac (Below.refl _ _)) (zac (Below.refl _ _)))⟩
theorem zfa{w wx:World}{cs:Array Value}{t:TypeId}(hbx:Below (w.alloc (.cells cs t)).heap.size (w.alloc (.cells cs t)) wx)(j:Nat):wx.cell? ⟨w.heap.size,j,none⟩=cs[j]? :=
 (World.cell?_of_block (a:=⟨w.heap.size,j,none⟩) (hbx.block w.heap.size (by simp))).trans (World.cell?_alloc_new _ _ _ j)
theorem Tryz.size214:(Tryz.prog.info? 214).map (·.size)=some 16:=by kernel_rfl
theorem Tryz.size215:(Tryz.prog.info? 215).map (·.size)=some 32:=by kernel_rfl
theorem Tryz.row214:Tryz.prog.underlying 214=some (.array 8 213):=by kernel_rfl
theorem Tryz.row215:Tryz.prog.underlying 215=some (.array 16 213):=by kernel_rfl
theorem zto{w:World}{b c:Nat}{bv cv:Value}{k o:Kn}(h:KnM w b bv k)(h2:KnM w c cv o)(hne:¬c=b):Calls Tryz.prog 142 #[.pointer (some ⟨b,0,none⟩),.pointer (some ⟨c,0,none⟩)] w (zlL w b bv (zf1 k o)):=by
 have hr:=h2.rowR
 have L0:JnM w w b c bv cv { k with regs:=zbh k.regs o.regs 0 } o:=by rw [zih];exact⟨h,h2,⟨rfl,rfl,rfl,Nat.le_refl _,fun _ _ _=>rfl⟩⟩
 have hi1:(Tryz.prog.info? 214).map (·.size)=some (rgs o.regs 8).length:=by rw [zdD];exact Tryz.size214
 have hx:=fun r hr W=>zoJ Tryz.row214 o.regs r hr W
 generalize rgs o.regs 8=cs at hr hi1 hx
 go_enter Tryz.func142,Tryz.ntmps142
 go_wp2_with(first|(refine wpList_load_mid rfl 214 _ rfl c 0 rfl cs _ hr Tryz.row214 rfl hi1 ?_))
 go_loopw [12] (fun ti wr=>∃ j:Nat,j≤8∧ti=.int .i64 (j:Int)∧JnM w wr b c bv cv { k with regs:=zbh k.regs o.regs j } o) (fun ti _=>8-(intOf ti).toNat)
 case atStart=>exact⟨0,by omega,rfl,L0⟩
 case round =>
  obtain⟨j,hj,rfl,L⟩:=hrel
  by_cases hjn:j<8
  ·have hxj:=hx j hjn
   have hj0:(0:Int)≤(j:Int):=by omega
   have hj1:(j:Int)<8:=by omega
   have LK:=L.kn.cR j hjn
   have e0:zbh k.regs o.regs j j=k.regs j:=zlQ _ _ _
   obtain⟨A,hA⟩:∃ A,wr.alloc (.cells #[.int .i64 (o.regs j).lo,.int .i64 (o.regs j).hi] 213)=A:=⟨_,rfl⟩
   have HL:∀ W,Below A.heap.size A W→Below wr.heap.size wr W:=fun W hW=>by subst hA;exact box1.trans (hW.mono (by simp))
   have HB:∀ W,Below A.heap.size A W→JnM w W b c bv cv { k with regs:=zbh k.regs o.regs j } o:=fun W hW=>L.below (HL W hW)
   have HF:∀ W,Below A.heap.size A W→(W.cell? ⟨wr.heap.size,0,none⟩=some (.int .i64 (o.regs j).lo)∧W.cell? ⟨wr.heap.size,1,none⟩=some (.int .i64 (o.regs j).hi))∧(W.cell? ⟨b,j*2,none⟩=some (.int .i64 (k.regs j).lo)∧W.cell? ⟨b,j*2+1,none⟩=some (.int .i64 (k.regs j).hi)):=fun W hW=>by
    have t:=(HB W hW).kn.cR j hjn
    rw [show({ k with regs:=zbh k.regs o.regs j }:Kn).regs j=k.regs j from e0] at t
    exact⟨by subst hA;exact⟨zfa hW 0,zfa hW 1⟩,t⟩
   go_wp2
   refine zaf 12 (fun W=>Below A.heap.size A W) (Below.refl _ _).drew (by kernel_rfl) (by kernel_rfl) ?_
   simp only [List.take,List.drop]
   repeat(refine zab rfl ?_ (fun W hW=>?_) ?_;rotate_left 1;· (obtain⟨⟨f0,f1⟩,f2,f3⟩:=HF W hW;go_simp;with_reducible rfl))
   refine zaP rfl 156 #[rv (k.regs j),rv (o.regs j)] (rv ((k.regs j).or (o.regs j))) (fun W hW=>?_) (fun W hW=>(zoD _ _ W).mono (fun e w' hh=>⟨hh.1,hW.trans (hh.2.mono hW.size)⟩)) ?_
   ·go_simp
   repeat(refine zab rfl ?_ (fun W hW=>?_) ?_;rotate_left 1;· (obtain⟨⟨f0,f1⟩,f2,f3⟩:=HF W hW;go_simp;with_reducible rfl))
   refine wpQuiet_nil ?_
   intro W hW
   have LW:=HB W hW
   obtain⟨_,c0,c1⟩:=HF W hW
   have z0:=LW.kn.fz (j*2)
   have z1:=LW.kn.fz (j*2+1)
   have LP:=LW.putR hne j hjn ((k.regs j).or (o.regs j))
   have LQ:JnM w ((W.setCell ⟨b,j*2,none⟩ (.int .i64 ((k.regs j).or (o.regs j)).lo)).setCell ⟨b,j*2+1,none⟩ (.int .i64 ((k.regs j).or (o.regs j)).hi)) b c bv cv { k with regs:=zbh k.regs o.regs (j+1) } o:=by
    have e:updR (zbh k.regs o.regs j) j ((k.regs j).or (o.regs j))=zbh k.regs o.regs (j+1):=zii _ _ _
    rw [←e]
    exact LP
   clear LP LW
   go_wp2
   exact⟨⟨j+1,by omega,by go_num,LQ⟩,by simp [intOf];omega⟩
  ·obtain rfl:j=8:=by omega
   have hr2:=L.ot.rowC
   have L2:JnM w wr b c bv cv { k with regs:=zbh k.regs o.regs 8,cells:=zbh k.cells o.cells 0 } o:=by rw [zih];exact L
   have hi2:(Tryz.prog.info? 215).map (·.size)=some (rgs o.cells 16).length:=by rw [zdD];exact Tryz.size215
   have hx2:=fun r hr W=>zoJ Tryz.row215 o.cells r hr W
   generalize rgs o.cells 16=ds at hr2 hi2 hx2
   clear L L0
   go_wp2_with(first|(refine wpList_load_mid rfl 215 _ rfl c 16 rfl ds _ hr2 Tryz.row215 rfl hi2 ?_))
   go_loopw [34] (fun ti wr=>∃ j:Nat,j≤16∧ti=.int .i64 (j:Int)∧JnM w wr b c bv cv { k with regs:=zbh k.regs o.regs 8,cells:=zbh k.cells o.cells j } o) (fun ti _=>16-(intOf ti).toNat)
   case atStart=>exact⟨0,by omega,rfl,L2⟩
   case round =>
    obtain⟨j,hj,rfl,L⟩:=hrel
    by_cases hjn:j<16
    ·have hxj:=hx2 j hjn
     have hj0:(0:Int)≤(j:Int):=by omega
     have hj1:(j:Int)<16:=by omega
     have LK:=L.kn.cC j hjn
     have e0:zbh k.cells o.cells j j=k.cells j:=zlQ _ _ _
     obtain⟨A,hA⟩:∃ A,wr.alloc (.cells #[.int .i64 (o.cells j).lo,.int .i64 (o.cells j).hi] 213)=A:=⟨_,rfl⟩
     have HL:∀ W,Below A.heap.size A W→Below wr.heap.size wr W:=fun W hW=>by subst hA;exact box1.trans (hW.mono (by simp))
     have HB:∀ W,Below A.heap.size A W→JnM w W b c bv cv { k with regs:=zbh k.regs o.regs 8,cells:=zbh k.cells o.cells j } o:=fun W hW=>L.below (HL W hW)
     have HF:∀ W,Below A.heap.size A W→(W.cell? ⟨wr.heap.size,0,none⟩=some (.int .i64 (o.cells j).lo)∧W.cell? ⟨wr.heap.size,1,none⟩=some (.int .i64 (o.cells j).hi))∧(W.cell? ⟨b,16+j*2,none⟩=some (.int .i64 (k.cells j).lo)∧W.cell? ⟨b,16+j*2+1,none⟩=some (.int .i64 (k.cells j).hi)):=fun W hW=>by
      have t:=(HB W hW).kn.cC j hjn
      rw [show({ k with regs:=zbh k.regs o.regs 8,cells:=zbh k.cells o.cells j }:Kn).cells j=k.cells j from e0] at t
      exact⟨by subst hA;exact⟨zfa hW 0,zfa hW 1⟩,t⟩
     go_wp2
     refine zaf 12 (fun W=>Below A.heap.size A W) (Below.refl _ _).drew (by kernel_rfl) (by kernel_rfl) ?_
     simp only [List.take,List.drop]
     repeat(refine zab rfl ?_ (fun W hW=>?_) ?_;rotate_left 1;· (obtain⟨⟨f0,f1⟩,f2,f3⟩:=HF W hW;go_simp;with_reducible rfl))
     refine zaP rfl 156 #[rv (k.cells j),rv (o.cells j)] (rv ((k.cells j).or (o.cells j))) (fun W hW=>?_) (fun W hW=>(zoD _ _ W).mono (fun e w' hh=>⟨hh.1,hW.trans (hh.2.mono hW.size)⟩)) ?_
     ·go_simp
     repeat(refine zab rfl ?_ (fun W hW=>?_) ?_;rotate_left 1;· (obtain⟨⟨f0,f1⟩,f2,f3⟩:=HF W hW;go_simp;with_reducible rfl))
     refine wpQuiet_nil ?_
     intro W hW
     have LW:=HB W hW
     obtain⟨_,c0,c1⟩:=HF W hW
     have z0:=LW.kn.fz (16+j*2)
     have z1:=LW.kn.fz (16+j*2+1)
     have LP:=LW.putC hne j hjn ((k.cells j).or (o.cells j))
     have LQ:JnM w ((W.setCell ⟨b,16+j*2,none⟩ (.int .i64 ((k.cells j).or (o.cells j)).lo)).setCell ⟨b,16+j*2+1,none⟩ (.int .i64 ((k.cells j).or (o.cells j)).hi)) b c bv cv { k with regs:=zbh k.regs o.regs 8,cells:=zbh k.cells o.cells (j+1) } o:=by
      have e:updR (zbh k.cells o.cells j) j ((k.cells j).or (o.cells j))=zbh k.cells o.cells (j+1):=zii _ _ _
      rw [←e]
      exact LP
     clear LP LW
     go_wp2
     exact⟨⟨j+1,by omega,by go_num,LQ⟩,by simp [intOf];omega⟩
    ·obtain rfl:j=16:=by omega
     go_wp2
     refine bodyPost_end (results_none rfl _ _ _) rfl ⟨rfl,zyr L.kn,L.low⟩
structure TrIn(w:World)(pt ps pi pr:Nat)(s:ByteArray)(iv:Value)(n:Int):Prop where
 text:w.cell? ⟨pt,0,none⟩=some (.string s)
 steps:w.cell? ⟨ps,0,none⟩=some (.int .i64 n)
 inp:w.cell? ⟨pi,0,none⟩=some iv
 state:w.there pr 0 30
 ne:¬ps=pr∧¬pi=pr
def zng(s:ByteArray)(L:List Said):Prop:=∀ w,LibW w→Calls Tryz.prog 44 #[.string s] w fun e w'=>Below w.heap.size w w'∧∃ pm ao m cap F,e=.returned (.agg #[.slice ao m cap,.map (some pm)])∧PIn w.heap.size w' pm (.slice ao m cap) F∧Right L F∧F.length≤300∧(∀ f∈F,f.its.length≤300∧∀ i∈f.its,ItOk i)
def zsV(w:World)(pr:Nat)(m:Mc)(line:Int)(w':World):Prop:=∃ w1 ao no co,w'=w1.setCells pr 0 (zav m (.slice ao no co) line)∧Below w.heap.size w w1∧w1.ownsRow w.heap.size 2 1 (.slice ao no co) m.out.length (i64s m.out)
theorem zme{w:World}{p:Value}(r:Rg)(_hr:r.Ok)(h0:r.lo<0):Calls Tryz.prog 255 #[p,rv r] w fun e w'=>e=zaj 8 0∧Below w.heap.size w w':=by
 unfold Rg.Ok i64 at _hr
 have t:decide ((0:Int)≤r.lo)=false:=by simpa using h0
 go_enter Tryz.func255,Tryz.ntmps255
 go_wp2
 exact⟨rfl,rfl,rfl,rfl,zaK⟩
theorem zkt{w:World}{p:Value}(r:Rg)(_hr:r.Ok)(h0:0≤r.lo)(h1:15<r.hi):Calls Tryz.prog 255 #[p,rv r] w fun e w'=>e=zaj 8 0∧Below w.heap.size w w':=by
 unfold Rg.Ok i64 at _hr
 have t:decide (r.hi≤(15:Int))=false:=by simpa using h1
 go_enter Tryz.func255,Tryz.ntmps255
 go_wp2
 exact⟨rfl,rfl,rfl,rfl,zaK⟩
theorem zgU{w:World}{p:Value}(r:Rg)(hr:r.Ok)(h:¬(0≤r.lo∧r.hi≤15)):Calls Tryz.prog 255 #[p,rv r] w fun e w'=>e=zaj 8 0∧Below w.heap.size w w':=by
 by_cases h0:0≤r.lo
 ·exact zkt r hr h0 (by omega)
 ·exact zme r hr (by omega)
theorem zvW:Tryz.prog.built 217 []=some (zbd (.slice none 0 0) kn0).toArray:=by kernel_rfl
theorem ztN(w:World):KnM (w.alloc (.cells (zbd (.slice none 0 0) kn0).toArray 217)) w.heap.size (.slice none 0 0) kn0:=by
 have hr:=ze7 w (zbd (.slice none 0 0) kn0) 217
 refine(zio (o:=0) fun j hj=>?_).whole (fun j=>by simp)
 have hl:j<(zbd (.slice none 0 0) kn0).length:=by rw [zd2];exact hj
 exact(hr j _ (List.getElem?_eq_getElem hl)).trans (List.getElem?_eq_getElem hl).symm
theorem znB(w:World):Calls Tryz.prog 113 #[] w fun e w'=>e=.returned (.pointer (some ⟨w.heap.size,0,none⟩))∧KnM w' w.heap.size (.slice none 0 0) kn0∧Below w.heap.size w w'∧w'.heap.size=w.heap.size+1:=by
 have hb:=zvW
 have hm:=ztN w
 generalize zbd (.slice none 0 0) kn0=ds at hb hm
 go_enter Tryz.func113,Tryz.ntmps113
 go_wp2_with(first
  | (refine wpList_build rfl 217 _ rfl ?_ ?_
     ·simp [hb]
     simp only [List.map_toArray,List.map_nil,Act.eval]
     refine Hid.out ?_))
 unfold Hid
 erw [hb]
 simp only [Option.getD_some,Act.put,List.setIfInBounds_toArray,List.set_cons_succ,List.set_cons_zero]
 go_wp2_with(first|(refine Go.Great.wpList_boxTo rfl 217 _ rfl _ rfl w.heap.size rfl ds.toArray rfl ?_))
 go_ret
 exact⟨rfl,hm,(Below.refl _ _).alloc (Nat.le_refl _) _,by simp⟩
theorem ztE{w:World}{p:Value}(r:Rg)(hr:r.Ok)(h:¬(0≤r.lo∧r.hi≤15)):Calls Tryz.prog 254 #[p,rv r] w fun e w'=>e=zaj 8 0∧Below w.heap.size w w':=by
 go_enter Tryz.func254,Tryz.ntmps254
 go_wp2_with(go_at_call 255;(with_reducible refine(zgU r hr h).mono ?_);rintro e wx ⟨rfl,hbx⟩)
 exact⟨rfl,rfl,box2.trans (hbx.mono (by simp;omega))⟩
theorem zqI{w:World}{p:Value}(r v:Rg)(hr:r.Ok)(h:¬(0≤r.lo∧r.hi≤15)):Calls Tryz.prog 258 #[p,rv r,rv v] w fun e w'=>e=zaj 8 0∧Below w.heap.size w w':=by
 go_enter Tryz.func258,Tryz.ntmps258
 go_wp2_with(go_at_call 255;(with_reducible refine(zgU r hr h).mono ?_);rintro e wx ⟨rfl,hbx⟩)
 exact⟨rfl,rfl,box2.trans (hbx.mono (by simp;omega))⟩
theorem ziI{w:World}{b:Nat}{bv:Value}{k:Kn}(h:KnM w b bv k)(r:Nat)(s:Nat)(hs:s<8)(K:(k.regs s).Ok)(hout:¬(0≤(k.regs s).lo∧(k.regs s).hi≤15)):
  Calls Tryz.prog 252 #[.agg #[.int .i64 (r:Int),.int .i64 (s:Int)],.pointer (some ⟨b,0,none⟩)] w fun e w'=>e=zaj 8 0∧Below w.heap.size w w':=by
 have hlt:=h.lt
 have s0:(0:Int)≤(s:Int):=by omega
 have s1:(s:Int)<8:=by omega
 have a0:=((h.alloc (.cells #[.int .i64 (r:Int),.int .i64 (s:Int)] 176)).cR s hs).1
 have a1:=((h.alloc (.cells #[.int .i64 (r:Int),.int .i64 (s:Int)] 176)).cR s hs).2
 go_enter Tryz.func252,Tryz.ntmps252
 go_wp2
 go_region_dies
 all_goals(go_at_call 254;(with_reducible refine(ztE (k.regs s) K hout).mono ?_);rintro e wx ⟨rfl,hbx⟩)
 all_goals exact⟨rfl,rfl,(box1.drew).trans (hbx.mono (by simp))⟩
theorem zit{w:World}{b:Nat}{bv:Value}{k:Kn}(h:KnM w b bv k)(r:Nat)(hr:r<8)(s:Nat)(hs:s<8)(K:(k.regs r).Ok)(hout:¬(0≤(k.regs r).lo∧(k.regs r).hi≤15)):
  Calls Tryz.prog 257 #[.agg #[.int .i64 (r:Int),.int .i64 (s:Int)],.pointer (some ⟨b,0,none⟩)] w fun e w'=>e=zaj 8 0∧Below w.heap.size w w':=by
 have hlt:=h.lt
 have r0:(0:Int)≤(r:Int):=by omega
 have r1:(r:Int)<8:=by omega
 have s0:(0:Int)≤(s:Int):=by omega
 have s1:(s:Int)<8:=by omega
 obtain⟨A,hA⟩:∃ A,w.alloc (.cells #[.int .i64 (r:Int),.int .i64 (s:Int)] 178)=A:=⟨_,rfl⟩
 have HB:∀ W,Below A.heap.size A W→KnM W b bv k:=fun W hW=>by subst hA;exact(h.alloc _).below hW (by simp;omega)
 have hL:∀ W,Below A.heap.size A W→Below w.heap.size w W:=fun W hW=>by subst hA;exact box1.trans (hW.mono (by simp))
 have HF:∀ W,Below A.heap.size A W→(W.cell? ⟨w.heap.size,0,none⟩=some (.int .i64 (r:Int))∧W.cell? ⟨w.heap.size,1,none⟩=some (.int .i64 (s:Int)))∧(W.cell? ⟨b,r*2,none⟩=some (.int .i64 (k.regs r).lo)∧W.cell? ⟨b,r*2+1,none⟩=some (.int .i64 (k.regs r).hi))∧(W.cell? ⟨b,s*2,none⟩=some (.int .i64 (k.regs s).lo)∧W.cell? ⟨b,s*2+1,none⟩=some (.int .i64 (k.regs s).hi)):=fun W hW =>
  ⟨by subst hA;exact⟨za8 hW 0,za8 hW 1⟩,(HB W hW).cR r hr,(HB W hW).cR s hs⟩
 go_enter Tryz.func257,Tryz.ntmps257
 go_wp2
 refine zaf 15 (fun W=>Below A.heap.size A W) (Below.refl _ _).drew (by kernel_rfl) (by kernel_rfl) ?_
 simp only [List.take,List.drop]
 repeat(refine zab rfl ?_ (fun W hW=>?_) ?_;rotate_left 1;· (obtain⟨⟨f0,f1⟩,⟨f2,f3⟩,f4,f5⟩:=HF W hW;go_simp;with_reducible rfl))
 refine wpQuiet_nil ?_
 intro W hW
 have hW2:=hL W hW
 go_wp2_with(first|(go_at_call 258;(with_reducible refine(zqI (k.regs r) (k.regs s) K hout).mono ?_);rintro e w5 ⟨rfl,hb5⟩))
 exact⟨rfl,rfl,hW2.trans (hb5.mono hW2.size)⟩
theorem zvS(l r:Rg)(w:World):Calls Tryz.prog 276 #[rv l,rv r] w (zdB w l r (zeC l r)):=by
 have hb1:=zcp (max l.lo r.lo) (min l.hi r.hi)
 by_cases h:max l.lo r.lo≤min l.hi r.hi
 ·have e0:zeC l r=some (⟨max l.lo r.lo,min l.hi r.hi⟩,⟨max l.lo r.lo,min l.hi r.hi⟩):=by unfold zeC;rw [if_pos h]
  rw [e0]
  have H1:=zfX w (.cells #[.int .i64 l.lo,.int .i64 l.hi] 213) (.cells #[.int .i64 r.lo,.int .i64 r.hi] 213) (.cells #[.int .i64 0,.int .i64 0] 213) (.cells #[.int .i64 0,.int .i64 0] 213) (max l.lo r.lo) (min l.hi r.hi)
  go_enter Tryz.func276,Tryz.ntmps276
  go_wp2
  go_region_held3 (fun W=>W.cell? ⟨w.heap.size+1+1+1+1,0,none⟩=some (.int .i64 (max l.lo r.lo))∧W.cell? ⟨w.heap.size+1+1+1+1,1,none⟩=some (.int .i64 (min l.hi r.hi)))
   (first|exact zfX _ _ _ _ _ _ _|go_keep)
   (fail)
  all_goals go_wp2
  all_goals exact zdC (l:=⟨max l.lo r.lo,min l.hi r.hi⟩) (r:=⟨max l.lo r.lo,min l.hi r.hi⟩) Tryz.results276 rfl rfl rfl rfl (zaC box1 (zaH _ _ _ _ _ _ 0)) (zaC box1 (zaH _ _ _ _ _ _ 1)) (zaC box1 (za5 _ _ _ _ _ _ 0)) (zaC box1 (za5 _ _ _ _ _ _ 1)) ⟨(zbE.alloc (by simp;omega) _).drew,rfl⟩
 ·have e0:zeC l r=none:=by unfold zeC;rw [if_neg h]
  have hdec:decide (max l.lo r.lo≤min l.hi r.hi)=false:=by simpa using h
  rw [e0]
  have H1:=zfX w (.cells #[.int .i64 l.lo,.int .i64 l.hi] 213) (.cells #[.int .i64 r.lo,.int .i64 r.hi] 213) (.cells #[.int .i64 0,.int .i64 0] 213) (.cells #[.int .i64 0,.int .i64 0] 213) (max l.lo r.lo) (min l.hi r.hi)
  go_enter Tryz.func276,Tryz.ntmps276
  go_wp2
  go_region_held3 (fun W=>W.cell? ⟨w.heap.size+1+1+1+1,0,none⟩=some (.int .i64 (max l.lo r.lo))∧W.cell? ⟨w.heap.size+1+1+1+1,1,none⟩=some (.int .i64 (min l.hi r.hi)))
   (first|exact zfX _ _ _ _ _ _ _|go_keep)
   (fail)
  all_goals go_wp2
  all_goals exact zdC (l:=⟨max l.lo r.lo,min l.hi r.hi⟩) (r:=⟨max l.lo r.lo,min l.hi r.hi⟩) Tryz.results276 rfl rfl rfl rfl (zaC box1 (zaH _ _ _ _ _ _ 0)) (zaC box1 (zaH _ _ _ _ _ _ 1)) (zaC box1 (za5 _ _ _ _ _ _ 0)) (zaC box1 (za5 _ _ _ _ _ _ 1)) ⟨(zbE.alloc (by simp;omega) _).drew,_,_,by first|rfl|rw [hdec]⟩
theorem zfy{e:Int}{o:Option Int}{c:Int × Int}(h:zep e o c=(0,0))(he:¬e=0):o=none∧c=(0,0):=by
 cases o with
 | none=>exact⟨rfl,h⟩
 | some l=>exact absurd (congrArg Prod.fst h) he
theorem zkh(A:List ByteArray)(i j:Nat)(hj:j<A.length)(hij:i≤j)(hb:(say A[j]).ok=false):¬zbG A i=(0,0):=by
 have hi:i<A.length:=by omega
 cases hc:(say A[i]).ok with
 | false=>rw [zdI A i hi hc];exact fun e=>absurd (congrArg Prod.fst e) (show ¬(1:Int)=0 by decide)
 | true =>
  rw [zeP A i hi hc]
  have hne:¬i=j:=fun e=>by subst e;rw [hb] at hc;cases hc
  exact zkh A (i+1) j hj (by omega) hb
termination_by A.length-i
theorem zoA(s:ByteArray)(h:zbw s=(0,0)):zng s ((lines s).map say):=by
 have hgood:=zmQ s h
 unfold zbw at h
 by_cases hf:4000<s.size∨300<(lines s).length
 ·rw [if_pos hf] at h;exact absurd (congrArg Prod.fst h) (by decide)
 ·rw [if_neg hf] at h
  have h4:s.size≤4000:=by omega
  have h3:(lines s).length≤300:=by omega
  by_cases hok:∀ x∈lines s,(say x).ok=true
  ·rw [zeS _ hok 0,zeR _ hok] at h
   have S:Sts s (zbe (lines s) (lines s).length):=⟨h4,h3,hok,rfl⟩
   have hka:=zjM (lines s)
   generalize zbe (lines s) (lines s).length=K at S h hka
   cases K with
   | nil=>exact absurd (congrArg Prod.fst h) (by decide)
   | cons k r =>
    unfold sayK at h
    dsimp only at h
    by_cases h0:k.sort=0
    ·rw [if_pos h0] at h
     obtain⟨ht,h⟩:=zfy h (by decide)
     obtain⟨hm,h⟩:=zfy h (by decide)
     obtain⟨he,_⟩:=zfy h (by decide)
     intro w hw
     refine(zjn s k r S h0 ht _ rfl hm he w hw).mono ?_
     rintro e w' ⟨hb,pm,ao,n,cap,F,rfl,hP,hG,hF0,hFn,hFi⟩
     refine⟨hb,pm,ao,n,cap,F,rfl,hP,⟨hgood,zhX _ 0 k r hka.symm h0,?_,hF0⟩,hFn,hFi⟩
     rw [hG.out];exact znf _ 0 k r hka.symm h0
    ·rw [if_neg h0] at h
     exact absurd (congrArg Prod.fst h) (show ¬(2:Int)=0 by decide)
  ·exfalso
   have:∃ x∈lines s,¬(say x).ok=true:=by
    refine Classical.byContradiction fun hn=>hok fun x hx=>?_
    refine Classical.byContradiction fun hx'=>hn ⟨x,hx,hx'⟩
   obtain⟨x,hx,hb⟩:=this
   obtain⟨j,hj,rfl⟩:=List.mem_iff_getElem.1 hx
   exact zkh (lines s) 0 j hj (by omega) (by simpa using hb) h
theorem ztF{l r:Rg}(hl:l.Ok)(hr:r.Ok)(h:zeB l r=none)(h':zbv l r=none):False:=by
 unfold Rg.Ok at hl hr
 unfold zeB at h
 unfold zbv at h'
 split at h
 ·split at h'
  ·omega
  ·cases h'
 ·cases h
theorem ztG{l r:Rg}(h:zeC l r=none)(h':zaI l r=none):False:=by
 unfold zeC at h
 unfold zaI at h'
 split at h
 ·cases h
 ·split at h'
  ·omega
  ·cases h'
theorem zmg{w:World}{b:Nat}{bv:Value}{k:Kn}(h:KnM w b bv k)(hbv:bv.oneCell'=true)(K:KnOk k)(l r:Nat)(hl:l<8)(hr:r<8)(hne:¬l=r)(z:Int)(h0:0≤k.steps)(h1:k.steps≤100000)(n0:0≤k.next)(n1:k.next≤100000):
  Calls Tryz.prog 270 #[.pointer (some ⟨b,0,none⟩),.int .i64 (l:Int),.int .i64 (r:Int),.func (.func 271) #[] #[],.func (.func 272) #[] #[],.int .i64 z] w (zcJ w b bv (zb5 k l r zeB zbv z)):=by
 have hF:=fun(q:Option (Rg × Rg)) (hq:zeB (k.regs l) (k.regs r)=q) W b2 (hk:KnM W b2 bv k)=>zoI (F:=271) (fun _ _=>by kernel_rfl) hk l r hl hr hne q (fun W=>by rw [←hq];exact zv9 _ _ W (K.regs l hl) (K.regs r hr))
 have hG:=fun(q:Option (Rg × Rg)) (hq:zbv (k.regs l) (k.regs r)=q) W b2 (hk:KnM W b2 bv k)=>zoI (F:=272) (fun _ _=>by kernel_rfl) hk l r hl hr hne q (fun W=>by rw [←hq];exact zno _ _ W)
 unfold zb5
 cases hh:zeB (k.regs l) (k.regs r) with
 | none=>cases hf:zbv (k.regs l) (k.regs r) with
  | none=>exact(ztF (K.regs l hl) (K.regs r hr) hh hf).elim
  | some p=>obtain⟨x,y⟩:=p;exact zik h hbv l r z x y (hF _ hh) (hG _ hf) h0 h1 n0 n1
 | some p =>
  obtain⟨x,y⟩:=p
  cases hf:zbv (k.regs l) (k.regs r) with
  | none=>exact zij h hbv l r z x y (hF _ hh) (hG _ hf) h0 h1
  | some p=>obtain⟨x',y'⟩:=p;exact zil h hbv l r z x y x' y' (hF _ hh) (hG _ hf) h0 h1 n0 n1
theorem zmh{w:World}{b:Nat}{bv:Value}{k:Kn}(h:KnM w b bv k)(hbv:bv.oneCell'=true)(K:KnOk k)(l r:Nat)(hl:l<8)(hr:r<8)(hne:¬l=r)(z:Int)(h0:0≤k.steps)(h1:k.steps≤100000)(n0:0≤k.next)(n1:k.next≤100000):
  Calls Tryz.prog 270 #[.pointer (some ⟨b,0,none⟩),.int .i64 (l:Int),.int .i64 (r:Int),.func (.func 276) #[] #[],.func (.func 277) #[] #[],.int .i64 z] w (zcJ w b bv (zb5 k l r zeC zaI z)):=by
 have hF:=fun(q:Option (Rg × Rg)) (hq:zeC (k.regs l) (k.regs r)=q) W b2 (hk:KnM W b2 bv k)=>zoI (F:=276) (fun _ _=>by kernel_rfl) hk l r hl hr hne q (fun W=>by rw [←hq];exact zvS _ _ W)
 have hG:=fun(q:Option (Rg × Rg)) (hq:zaI (k.regs l) (k.regs r)=q) W b2 (hk:KnM W b2 bv k)=>zoI (F:=277) (fun _ _=>by kernel_rfl) hk l r hl hr hne q (fun W=>by rw [←hq];exact zn5 _ _ W (K.regs l hl) (K.regs r hr))
 unfold zb5
 cases hh:zeC (k.regs l) (k.regs r) with
 | none=>cases hf:zaI (k.regs l) (k.regs r) with
  | none=>exact(ztG hh hf).elim
  | some p=>obtain⟨x,y⟩:=p;exact zik h hbv l r z x y (hF _ hh) (hG _ hf) h0 h1 n0 n1
 | some p =>
  obtain⟨x,y⟩:=p
  cases hf:zaI (k.regs l) (k.regs r) with
  | none=>exact zij h hbv l r z x y (hF _ hh) (hG _ hf) h0 h1
  | some p=>obtain⟨x',y'⟩:=p;exact zil h hbv l r z x y x' y' (hF _ hh) (hG _ hf) h0 h1 n0 n1
theorem zix{w:World}{b:Nat}{bv:Value}{k:Kn}(h:KnM w b bv k)(r:Nat)(z:Int)(h0:0≤k.steps)(h1:k.steps≤100000)(n0:0≤k.next)(n1:k.next≤100000):
  Calls Tryz.prog 268 #[.agg #[.int .i64 (r:Int),.int .i64 (r:Int),.int .i64 z],.pointer (some ⟨b,0,none⟩)] w (zaZ w b bv (k.goTo (k.next+1))):=by
 have hK:=h.alloc (.cells #[.int .i64 (r:Int),.int .i64 (r:Int),.int .i64 z] 187)
 go_enter Tryz.func268,Tryz.ntmps268
 go_wp2_with(go_at_call 227;(with_reducible refine(zcq hK h0 h1 n0 n1).mono ?_);intro e w6 hw6;have hw7:=zdl (zaQ (b:=some b) box1) hw6;clear hw6;obtain⟨g,rfl,hg,hc,hk,hgr⟩:=hw7)
 go_ret
 exact⟨g,rfl,hg,hc,hk,hgr⟩
theorem ziy{w:World}{b:Nat}{bv:Value}{k:Kn}(h:KnM w b bv k)(r:Nat)(z:Int)(h0:0≤k.steps)(h1:k.steps≤100000):
  Calls Tryz.prog 275 #[.agg #[.int .i64 (r:Int),.int .i64 (r:Int),.int .i64 z],.pointer (some ⟨b,0,none⟩)] w (zaZ w b bv (k.goTo z)):=by
 have hK:=h.alloc (.cells #[.int .i64 (r:Int),.int .i64 (r:Int),.int .i64 z] 188)
 go_enter Tryz.func275,Tryz.ntmps275
 go_wp2_with(go_at_call 229;(with_reducible refine(zfY hK z h0 h1).mono ?_);intro e w6 hw6;have hw7:=zdl (zaQ (b:=some b) box1) hw6;clear hw6;obtain⟨g,rfl,hg,hc,hk,hgr⟩:=hw7)
 go_ret
 exact⟨g,rfl,hg,hc,hk,hgr⟩
theorem zgY{w:World}{b:Nat}{bv:Value}{k:Kn}(h:KnM w b bv k)(hbv:bv.oneCell'=true)(K:KnOk k)(l r:Nat)(hl:l<8)(hr:r<8)(hne:¬l=r)(z:Int)(h0:0≤k.steps)(h1:k.steps≤100000)(n0:0≤k.next)(n1:k.next≤100000):
  Calls Tryz.prog 268 #[.agg #[.int .i64 (l:Int),.int .i64 (r:Int),.int .i64 z],.pointer (some ⟨b,0,none⟩)] w (zcJ w b bv (zb5 k l r zeB zbv z)):=by
 have hK:=h.alloc (.cells #[.int .i64 (l:Int),.int .i64 (r:Int),.int .i64 z] 187)
 have t0:((l:Int) == (r:Int))=false:=by simpa using (by omega:¬(l:Int)=(r:Int))
 go_enter Tryz.func268,Tryz.ntmps268
 go_wp2_with(go_at_call 270;(with_reducible refine(zmg hK hbv K l r hl hr hne z h0 h1 n0 n1).mono ?_);intro e w6 hw6;have hw7:=zj8 (zaQ (b:=some b) box1) hw6;clear hw6;obtain⟨ao,cap,ps,rfl,A⟩:=hw7)
 go_ret
 exact⟨ao,cap,ps,rfl,A⟩
theorem zgZ{w:World}{b:Nat}{bv:Value}{k:Kn}(h:KnM w b bv k)(hbv:bv.oneCell'=true)(K:KnOk k)(l r:Nat)(hl:l<8)(hr:r<8)(hne:¬l=r)(z:Int)(h0:0≤k.steps)(h1:k.steps≤100000)(n0:0≤k.next)(n1:k.next≤100000):
  Calls Tryz.prog 275 #[.agg #[.int .i64 (l:Int),.int .i64 (r:Int),.int .i64 z],.pointer (some ⟨b,0,none⟩)] w (zcJ w b bv (zb5 k l r zeC zaI z)):=by
 have hK:=h.alloc (.cells #[.int .i64 (l:Int),.int .i64 (r:Int),.int .i64 z] 188)
 have t0:((l:Int) == (r:Int))=false:=by simpa using (by omega:¬(l:Int)=(r:Int))
 go_enter Tryz.func275,Tryz.ntmps275
 go_wp2_with(go_at_call 270;(with_reducible refine(zmh hK hbv K l r hl hr hne z h0 h1 n0 n1).mono ?_);intro e w6 hw6;have hw7:=zj8 (zaQ (b:=some b) box1) hw6;clear hw6;obtain⟨ao,cap,ps,rfl,A⟩:=hw7)
 go_ret
 exact⟨ao,cap,ps,rfl,A⟩
end Go.Proofs.YtfpgjkbjbbgciaaGreatDoor
