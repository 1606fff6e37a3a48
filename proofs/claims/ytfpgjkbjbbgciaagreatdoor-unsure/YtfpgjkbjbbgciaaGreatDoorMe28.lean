import Derived.Test.YtfpgjkbjbbgciaaGreatDoorMe27
set_option maxRecDepth 100000
set_option maxHeartbeats 8000000
namespace Go.Proofs.YtfpgjkbjbbgciaaGreatDoor
open Go.RowKit Sp
def zdk (w : World) (_l _r : Rg) (q : Option (Rg × Rg)) : Ending → World → Prop:=fun e w' => Below w.heap.size w w' ∧ match q with
 | none => ∃ a b,e = .returned (.tuple #[rv a,rv b,.bool false])
 | some (a,b) => e = .returned (.tuple #[rv a,rv b,.bool true])
theorem zmo {fn : Func} {a b c : Tmp} {t : TypeId} (h : fn.results = #[.cell a t,.cell b t,.tmp c]) (tmps : Array Value) (p q : Addr) (hp : tmps.getD a undef = .pointer (some p)) (hq : tmps.getD b undef = .pointer (some q)) {P : Program} {w : World} {u v : Value} (hl : (loadVar t p).run P w = .ok u w) (hm : (loadVar t q).run P w = .ok v w) : (results fn tmps).run P w = .ok (.tuple #[u,v,tmps.getD c undef]) w:=by
 have hp2 : tmps[a]?.getD undef = .pointer (some p):=by simpa using hp
 have hq2 : tmps[b]?.getD undef = .pointer (some q):=by simpa using hq
 simp [results,h,hp2,hq2,asAddr,hl,hm]
theorem zdl {fn : Func} {a b c : Tmp} {Q : Ending → World → Prop} {X : World} {act : Act} {p q : Nat} {l r : Rg} {x : Bool} (hr : fn.results = #[.cell a 213,.cell b 213,.tmp c]) (hp : act.tmps.getD a undef = .pointer (some ⟨p,0,none⟩)) (hq : act.tmps.getD b undef = .pointer (some ⟨q,0,none⟩)) (hc : act.tmps.getD c undef = .bool x) (hd : act.defers = [])
  (h0 : X.cell? ⟨p,0,none⟩ = some (.int .i64 l.lo)) (h1 : X.cell? ⟨p,1,none⟩ = some (.int .i64 l.hi)) (h2 : X.cell? ⟨q,0,none⟩ = some (.int .i64 r.lo)) (h3 : X.cell? ⟨q,1,none⟩ = some (.int .i64 r.hi)) (hQ : Q (.returned (.tuple #[rv l,rv r,.bool x])) X) : bodyPost Tryz.prog fn Q .ret act X:=by
 have h:=zmo hr act.tmps ⟨p,0,none⟩ ⟨q,0,none⟩ hp hq (zmn h0 h1) (zmn h2 h3)
 rw [hc] at h
 exact bodyPost_ret h hd hQ
theorem za2 (w : World) (a b c : Obj) (cs : Array Value) (t : TypeId) (j : Nat) : ((((w.alloc a).alloc b).alloc c).alloc (.cells cs t)).cell? ⟨w.heap.size + 1 + 1 + 1,j,none⟩ = cs[j]?:=by
 have h:=World.cell?_alloc_new (w:=((w.alloc a).alloc b).alloc c) cs t j
 rw [show (((w.alloc a).alloc b).alloc c).heap.size = w.heap.size + 1 + 1 + 1 by simp] at h
 exact h
theorem za9 (w : World) (a b d : Obj) (cs : Array Value) (t : TypeId) (j : Nat) : ((((w.alloc a).alloc b).alloc (.cells cs t)).alloc d).cell? ⟨w.heap.size + 1 + 1,j,none⟩ = cs[j]?:=by
 rw [← za5 w a b cs t j]
 exact World.cell?_of_block (w:=((w.alloc a).alloc b).alloc (.cells cs t)) (((Below.refl (((w.alloc a).alloc b).alloc (.cells cs t)).heap.size (((w.alloc a).alloc b).alloc (.cells cs t))).alloc (Nat.le_refl _) d).block (w.heap.size + 1 + 1) (by simp))
theorem zfx (w : World) (a b c d : Obj) (x y : Int) : (((((w.alloc a).alloc b).alloc c).alloc d).alloc (.cells #[.int .i64 x,.int .i64 y] 213)).cell? ⟨w.heap.size + 1 + 1 + 1 + 1,0,none⟩ = some (.int .i64 x) ∧ (((((w.alloc a).alloc b).alloc c).alloc d).alloc (.cells #[.int .i64 x,.int .i64 y] 213)).cell? ⟨w.heap.size + 1 + 1 + 1 + 1,1,none⟩ = some (.int .i64 y):=by
 have h:=fun j => World.cell?_alloc_new (w:=(((w.alloc a).alloc b).alloc c).alloc d) #[.int .i64 x,.int .i64 y] 213 j
 rw [show ((((w.alloc a).alloc b).alloc c).alloc d).heap.size = w.heap.size + 1 + 1 + 1 + 1 by simp] at h
 exact ⟨h 0,h 1⟩
theorem zb3 {w : World} {a b c d : Obj} : Below w.heap.size w ((((w.alloc a).alloc b).alloc c).alloc d):=zaB.alloc (by simp; omega) _
theorem zee (w : World) (l r : Rg) (c d : Obj) :
  ((((w.alloc (.cells #[.int .i64 l.lo,.int .i64 l.hi] 213)).alloc (.cells #[.int .i64 r.lo,.int .i64 r.hi] 213)).alloc c).alloc d).cell? ⟨w.heap.size,0,none⟩ = some (.int .i64 l.lo) ∧ ((((w.alloc (.cells #[.int .i64 l.lo,.int .i64 l.hi] 213)).alloc (.cells #[.int .i64 r.lo,.int .i64 r.hi] 213)).alloc c).alloc d).cell? ⟨w.heap.size,1,none⟩ = some (.int .i64 l.hi) ∧
  ((((w.alloc (.cells #[.int .i64 l.lo,.int .i64 l.hi] 213)).alloc (.cells #[.int .i64 r.lo,.int .i64 r.hi] 213)).alloc c).alloc d).cell? ⟨w.heap.size + 1,0,none⟩ = some (.int .i64 r.lo) ∧ ((((w.alloc (.cells #[.int .i64 l.lo,.int .i64 l.hi] 213)).alloc (.cells #[.int .i64 r.lo,.int .i64 r.hi] 213)).alloc c).alloc d).cell? ⟨w.heap.size + 1,1,none⟩ = some (.int .i64 r.hi) :=
 zbH box1 ⟨zaY _ _ _ _ _ 0,zaY _ _ _ _ _ 1,zcp _ _ _ _ _ 0,zcp _ _ _ _ _ 1⟩
theorem ztV (l r : Rg) (w : World) (hl : l.Ok) (hr : r.Ok) : Calls Tryz.prog 271 #[rv l,rv r] w (zdk w l r (zec l r)):=by
 unfold Rg.Ok i64 at hl hr
 by_cases h : r.hi ≤ l.lo
 ·have e0 : zec l r = none:=by unfold zec; rw [if_pos h]
  rw [e0]
  go_enter Tryz.func271,Tryz.ntmps271
  go_wp2
  go_region
  all_goals go_wp2
  all_goals exact zdl Tryz.results271 rfl rfl rfl rfl (za9 _ _ _ _ _ _ 0) (za9 _ _ _ _ _ _ 1) (za2 _ _ _ _ _ _ 0) (za2 _ _ _ _ _ _ 1) ⟨zb3.drew,_,_,rfl⟩
 ·have e0 : zec l r = some (⟨l.lo,min l.hi (r.hi - 1)⟩,⟨max (l.lo + 1) r.lo,r.hi⟩):=by unfold zec; rw [if_neg h]
  rw [e0]
  have hb1:=zbU l.lo (min l.hi (r.hi - 1))
  have hb2:=zbU (max (l.lo + 1) r.lo) r.hi
  have b1 : l.lo + 1 ≤ 9223372036854775807:=by omega
  have b0 : -9223372036854775808 ≤ l.lo + 1:=by omega
  have b2 : r.hi - 1 ≤ 9223372036854775807:=by omega
  have b3 : -9223372036854775808 ≤ r.hi - 1:=by omega
  have w1 : IntKind.i64.wrap (r.hi - 1) = r.hi - 1:=by rw [zj0]; exact zfw ⟨b3,b2⟩
  have w2 : IntKind.i64.wrap (l.lo + 1) = l.lo + 1:=by rw [zj0]; exact zfw ⟨b0,b1⟩
  have H1:=zee w l r (.cells #[.int .i64 0,.int .i64 0] 213) (.cells #[.int .i64 0,.int .i64 0] 213)
  go_enter Tryz.func271,Tryz.ntmps271
  go_wp2
  go_region_held3 (fun W => W.cell? ⟨w.heap.size,0,none⟩ = some (.int .i64 l.lo) ∧ W.cell? ⟨w.heap.size,1,none⟩ = some (.int .i64 l.hi) ∧ W.cell? ⟨w.heap.size + 1,0,none⟩ = some (.int .i64 r.lo) ∧ W.cell? ⟨w.heap.size + 1,1,none⟩ = some (.int .i64 r.hi))
   (first | exact H1 | go_keep)
   (fail)
  all_goals go_wp2
  all_goals exact zdl (l:=⟨l.lo,min l.hi (r.hi - 1)⟩) (r:=⟨max (l.lo + 1) r.lo,r.hi⟩) Tryz.results271 rfl rfl rfl rfl (za9 _ _ _ _ _ _ 0) (za9 _ _ _ _ _ _ 1) (za2 _ _ _ _ _ _ 0) (za2 _ _ _ _ _ _ 1) ⟨zb3.drew,rfl⟩
theorem zmp (l r : Rg) (w : World) : Calls Tryz.prog 272 #[rv l,rv r] w (zdk w l r (zbi l r)):=by
 by_cases h : l.hi < r.lo
 ·have e0 : zbi l r = none:=by unfold zbi; rw [if_pos h]
  rw [e0]
  go_enter Tryz.func272,Tryz.ntmps272
  go_wp2
  go_region
  all_goals go_wp2
  all_goals exact zdl Tryz.results272 rfl rfl rfl rfl (za9 _ _ _ _ _ _ 0) (za9 _ _ _ _ _ _ 1) (za2 _ _ _ _ _ _ 0) (za2 _ _ _ _ _ _ 1) ⟨zb3.drew,_,_,rfl⟩
 ·have e0 : zbi l r = some (⟨max l.lo r.lo,l.hi⟩,⟨r.lo,min l.hi r.hi⟩):=by unfold zbi; rw [if_neg h]
  rw [e0]
  have hb1:=zbU (max l.lo r.lo) l.hi
  have hb2:=zbU r.lo (min l.hi r.hi)
  have H1:=zee w l r (.cells #[.int .i64 0,.int .i64 0] 213) (.cells #[.int .i64 0,.int .i64 0] 213)
  go_enter Tryz.func272,Tryz.ntmps272
  go_wp2
  go_region_held3 (fun W => W.cell? ⟨w.heap.size,0,none⟩ = some (.int .i64 l.lo) ∧ W.cell? ⟨w.heap.size,1,none⟩ = some (.int .i64 l.hi) ∧ W.cell? ⟨w.heap.size + 1,0,none⟩ = some (.int .i64 r.lo) ∧ W.cell? ⟨w.heap.size + 1,1,none⟩ = some (.int .i64 r.hi))
   (first | exact H1 | go_keep)
   (fail)
  all_goals go_wp2
  all_goals exact zdl (l:=⟨max l.lo r.lo,l.hi⟩) (r:=⟨r.lo,min l.hi r.hi⟩) Tryz.results272 rfl rfl rfl rfl (za9 _ _ _ _ _ _ 0) (za9 _ _ _ _ _ _ 1) (za2 _ _ _ _ _ _ 0) (za2 _ _ _ _ _ _ 1) ⟨zb3.drew,rfl⟩
theorem zfY {w W0 w3 : World} (hs0 : W0.heap.size = w.heap.size + 1 + 1 + 1 + 1) (k0 : W0.cell? ⟨w.heap.size + 1 + 1,0,none⟩ = some (.int .i64 0) ∧ W0.cell? ⟨w.heap.size + 1 + 1,1,none⟩ = some (.int .i64 0) ∧ W0.cell? ⟨w.heap.size + 1 + 1 + 1,0,none⟩ = some (.int .i64 0) ∧ W0.cell? ⟨w.heap.size + 1 + 1 + 1,1,none⟩ = some (.int .i64 0))
  (kz : ∀ j,W0.frozen? ⟨w.heap.size + 1 + 1,j,none⟩ = false ∧ W0.frozen? ⟨w.heap.size + 1 + 1 + 1,j,none⟩ = false) (hb : Below W0.heap.size W0 w3) :
  (w3.cell? ⟨w.heap.size + 1 + 1,0,none⟩ = some (.int .i64 0) ∧ w3.cell? ⟨w.heap.size + 1 + 1,1,none⟩ = some (.int .i64 0) ∧ w3.cell? ⟨w.heap.size + 1 + 1 + 1,0,none⟩ = some (.int .i64 0) ∧ w3.cell? ⟨w.heap.size + 1 + 1 + 1,1,none⟩ = some (.int .i64 0)) ∧
  w3.frozen? ⟨w.heap.size + 1 + 1,0,none⟩ = false ∧ w3.frozen? ⟨w.heap.size + 1 + 1,1,none⟩ = false ∧ w3.frozen? ⟨w.heap.size + 1 + 1 + 1,0,none⟩ = false ∧ w3.frozen? ⟨w.heap.size + 1 + 1 + 1,1,none⟩ = false:=by
 have z : ∀ b j,b < W0.heap.size → w3.frozen? ⟨b,j,none⟩ = W0.frozen? ⟨b,j,none⟩:=fun b j h => World.frozen?_of_block (w:=W0) (a:=⟨b,j,none⟩) (hb.block b h)
 refine ⟨zbH hb k0,?_,?_,?_,?_⟩
 ·rw [z _ _ (by omega)]; exact (kz 0).1
 ·rw [z _ _ (by omega)]; exact (kz 1).1
 ·rw [z _ _ (by omega)]; exact (kz 0).2
 ·rw [z _ _ (by omega)]; exact (kz 1).2
theorem zaV {W : World} {b c d : Nat} {x y v0 v1 v2 v3 : Value} (n1 : ¬ c = b) (n2 : ¬ d = b) (h : W.cell? ⟨c,0,none⟩ = some v0 ∧ W.cell? ⟨c,1,none⟩ = some v1 ∧ W.cell? ⟨d,0,none⟩ = some v2 ∧ W.cell? ⟨d,1,none⟩ = some v3) :
  ((W.setCell ⟨b,0,none⟩ x).setCell ⟨b,1,none⟩ y).cell? ⟨c,0,none⟩ = some v0 ∧ ((W.setCell ⟨b,0,none⟩ x).setCell ⟨b,1,none⟩ y).cell? ⟨c,1,none⟩ = some v1 ∧ ((W.setCell ⟨b,0,none⟩ x).setCell ⟨b,1,none⟩ y).cell? ⟨d,0,none⟩ = some v2 ∧ ((W.setCell ⟨b,0,none⟩ x).setCell ⟨b,1,none⟩ y).cell? ⟨d,1,none⟩ = some v3:=by
 have e : ∀ (g o : Nat),¬ g = b → ((W.setCell ⟨b,0,none⟩ x).setCell ⟨b,1,none⟩ y).cell? ⟨g,o,none⟩ = W.cell? ⟨g,o,none⟩:=fun g o hg => by
  rw [World.cell?_setCell_other,World.cell?_setCell_other]
  all_goals simp
 rw [e c 0 n1,e c 1 n1,e d 0 n2,e d 1 n2]
 exact h
theorem zfZ {W : World} {p q : Nat} {x0 x1 y0 y1 u0 u1 v0 v1 : Value} (hne : ¬ p = q) (h : W.cell? ⟨p,0,none⟩ = some u0 ∧ W.cell? ⟨p,1,none⟩ = some u1 ∧ W.cell? ⟨q,0,none⟩ = some v0 ∧ W.cell? ⟨q,1,none⟩ = some v1) :
  ((((W.setCell ⟨p,0,none⟩ x0).setCell ⟨p,1,none⟩ x1).setCell ⟨q,0,none⟩ y0).setCell ⟨q,1,none⟩ y1).cell? ⟨p,0,none⟩ = some x0 ∧ ((((W.setCell ⟨p,0,none⟩ x0).setCell ⟨p,1,none⟩ x1).setCell ⟨q,0,none⟩ y0).setCell ⟨q,1,none⟩ y1).cell? ⟨p,1,none⟩ = some x1 ∧
  ((((W.setCell ⟨p,0,none⟩ x0).setCell ⟨p,1,none⟩ x1).setCell ⟨q,0,none⟩ y0).setCell ⟨q,1,none⟩ y1).cell? ⟨q,0,none⟩ = some y0 ∧ ((((W.setCell ⟨p,0,none⟩ x0).setCell ⟨p,1,none⟩ x1).setCell ⟨q,0,none⟩ y0).setCell ⟨q,1,none⟩ y1).cell? ⟨q,1,none⟩ = some y1:=by
 obtain ⟨a1,a2⟩:=zar (v0:=x0) (v1:=x1) h.1 h.2.1
 have hne' : ¬ q = p:=fun e => hne e.symm
 have b:=zaV (b:=p) (x:=x0) (y:=x1) hne' hne' ⟨h.2.2.1,h.2.2.2,h.2.2.1,h.2.2.2⟩
 obtain ⟨c1,c2⟩:=zar (v0:=y0) (v1:=y1) b.1 b.2.1
 have d:=zaV (b:=q) (x:=y0) (y:=y1) hne hne ⟨a1,a2,a1,a2⟩
 exact ⟨d.1,d.2.1,c1,c2⟩
theorem zpg (a b c d : Int) (w : World) (hl : Rg.Ok ⟨a,b⟩) (hr : Rg.Ok ⟨c,d⟩) (hne : ¬ a = c) : Calls Tryz.prog 277 #[rv ⟨a,b⟩,rv ⟨c,d⟩] w (zdk w ⟨a,b⟩ ⟨c,d⟩ (zaA ⟨a,b⟩ ⟨c,d⟩)):=by
 have hq : zaA ⟨a,b⟩ ⟨c,d⟩ = some ((⟨a,b⟩ : Rg).without (⟨c,d⟩ : Rg),(⟨c,d⟩ : Rg).without (⟨a,b⟩ : Rg)):=by unfold zaA; rw [if_neg (by dsimp only; omega)]
 rw [hq]
 have g1:=fun W => zc4 (⟨a,b⟩ : Rg) (⟨c,d⟩ : Rg) W hl (by dsimp only; omega)
 have g2:=fun W => zc4 (⟨c,d⟩ : Rg) (⟨a,b⟩ : Rg) W hr (by dsimp only; omega)
 have H1:=zee w (⟨a,b⟩ : Rg) (⟨c,d⟩ : Rg) (.cells #[.int .i64 0,.int .i64 0] 213) (.cells #[.int .i64 0,.int .i64 0] 213)
 have hs0 : ((((w.alloc (.cells #[.int .i64 a,.int .i64 b] 213)).alloc (.cells #[.int .i64 c,.int .i64 d] 213)).alloc (.cells #[.int .i64 0,.int .i64 0] 213)).alloc (.cells #[.int .i64 0,.int .i64 0] 213)).heap.size = w.heap.size + 1 + 1 + 1 + 1:=by simp
 have hB : Below w.heap.size w ((((w.alloc (.cells #[.int .i64 a,.int .i64 b] 213)).alloc (.cells #[.int .i64 c,.int .i64 d] 213)).alloc (.cells #[.int .i64 0,.int .i64 0] 213)).alloc (.cells #[.int .i64 0,.int .i64 0] 213)):=zb3
 have k0 : ((((w.alloc (.cells #[.int .i64 a,.int .i64 b] 213)).alloc (.cells #[.int .i64 c,.int .i64 d] 213)).alloc (.cells #[.int .i64 0,.int .i64 0] 213)).alloc (.cells #[.int .i64 0,.int .i64 0] 213)).cell? ⟨w.heap.size + 1 + 1,0,none⟩ = some (.int .i64 0) ∧ ((((w.alloc (.cells #[.int .i64 a,.int .i64 b] 213)).alloc (.cells #[.int .i64 c,.int .i64 d] 213)).alloc (.cells #[.int .i64 0,.int .i64 0] 213)).alloc (.cells #[.int .i64 0,.int .i64 0] 213)).cell? ⟨w.heap.size + 1 + 1,1,none⟩ = some (.int .i64 0) ∧ ((((w.alloc (.cells #[.int .i64 a,.int .i64 b] 213)).alloc (.cells #[.int .i64 c,.int .i64 d] 213)).alloc (.cells #[.int .i64 0,.int .i64 0] 213)).alloc (.cells #[.int .i64 0,.int .i64 0] 213)).cell? ⟨w.heap.size + 1 + 1 + 1,0,none⟩ = some (.int .i64 0) ∧ ((((w.alloc (.cells #[.int .i64 a,.int .i64 b] 213)).alloc (.cells #[.int .i64 c,.int .i64 d] 213)).alloc (.cells #[.int .i64 0,.int .i64 0] 213)).alloc (.cells #[.int .i64 0,.int .i64 0] 213)).cell? ⟨w.heap.size + 1 + 1 + 1,1,none⟩ = some (.int .i64 0) :=
  ⟨za9 _ _ _ _ _ _ 0,za9 _ _ _ _ _ _ 1,za2 _ _ _ _ _ _ 0,za2 _ _ _ _ _ _ 1⟩
 have kz : ∀ j,((((w.alloc (.cells #[.int .i64 a,.int .i64 b] 213)).alloc (.cells #[.int .i64 c,.int .i64 d] 213)).alloc (.cells #[.int .i64 0,.int .i64 0] 213)).alloc (.cells #[.int .i64 0,.int .i64 0] 213)).frozen? ⟨w.heap.size + 1 + 1,j,none⟩ = false ∧ ((((w.alloc (.cells #[.int .i64 a,.int .i64 b] 213)).alloc (.cells #[.int .i64 c,.int .i64 d] 213)).alloc (.cells #[.int .i64 0,.int .i64 0] 213)).alloc (.cells #[.int .i64 0,.int .i64 0] 213)).frozen? ⟨w.heap.size + 1 + 1 + 1,j,none⟩ = false:=fun j =>
  ⟨(World.frozen?_alloc_past _ _ _ (by simp)).trans (zev _ _ _ _ _ j),World.frozen?_alloc_at _ _ _ _ (by simp)⟩
 clear hl hr hq
 generalize (⟨a,b⟩ : Rg).without (⟨c,d⟩ : Rg) = A at g1
 generalize (⟨c,d⟩ : Rg).without (⟨a,b⟩ : Rg) = B at g2
 have m1 : ¬ w.heap.size = w.heap.size + 1 + 1:=by omega
 have m2 : ¬ w.heap.size + 1 = w.heap.size + 1 + 1:=by omega
 have m3 : ¬ w.heap.size = w.heap.size + 1 + 1 + 1:=by omega
 have m4 : ¬ w.heap.size + 1 = w.heap.size + 1 + 1 + 1:=by omega
 have t1 : (a == c) = false:=by simpa using hne
 go_enter Tryz.func277,Tryz.ntmps277
 go_wp2_with fail
 generalize (((w.alloc (.cells #[.int .i64 a,.int .i64 b] 213)).alloc (.cells #[.int .i64 c,.int .i64 d] 213)).alloc (.cells #[.int .i64 0,.int .i64 0] 213)).alloc (.cells #[.int .i64 0,.int .i64 0] 213) = W0 at hs0 hB k0 kz H1
 go_region_held3 (fun W => W.cell? ⟨w.heap.size,0,none⟩ = some (.int .i64 a) ∧ W.cell? ⟨w.heap.size,1,none⟩ = some (.int .i64 b) ∧ W.cell? ⟨w.heap.size + 1,0,none⟩ = some (.int .i64 c) ∧ W.cell? ⟨w.heap.size + 1,1,none⟩ = some (.int .i64 d))
  (first | (with_reducible exact H3) | (with_reducible exact H2) | (with_reducible exact zaV m1 m2 H3) | (with_reducible exact zaV m3 m4 H3) | (with_reducible exact zaV m3 m4 (zaV m1 m2 H3)) | (with_reducible exact zaV m1 m2 (zaV m3 m4 H3)) | exact H1)
  (first | (go_at_call 278; (with_reducible refine (g1 _).mono ?_); rintro e w2 ⟨rfl,hb2⟩; have H2:=zbH hb2 H1) | (go_at_call 278; (with_reducible refine (g2 _).mono ?_); rintro e w3 ⟨rfl,hb3⟩; have H3:=zbH hb3 H2; have hb03 : Below W0.heap.size W0 w3:=((Below.refl _ _).drew).trans (hb2.trans (hb3.mono hb2.size)); obtain ⟨⟨q1,q2,q3,q4⟩,f1,f2,f3,f4⟩:=zfY hs0 k0 kz hb03))
 have hb03 : Below W0.heap.size W0 w3:=((Below.refl _ _).drew).trans (hb2.trans (hb3.mono hb2.size))
 have hbw:=hB.trans (hb03.mono hB.size)
 have R:=zfZ (x0:=.int .i64 A.lo) (x1:=.int .i64 A.hi) (y0:=.int .i64 B.lo) (y1:=.int .i64 B.hi) (show ¬ w.heap.size + 1 + 1 = w.heap.size + 1 + 1 + 1 by omega) ⟨q1,q2,q3,q4⟩
 have hX : Below w.heap.size w ((((w3.setCell ⟨w.heap.size + 1 + 1,0,none⟩ (.int .i64 A.lo)).setCell ⟨w.heap.size + 1 + 1,1,none⟩ (.int .i64 A.hi)).setCell ⟨w.heap.size + 1 + 1 + 1,0,none⟩ (.int .i64 B.lo)).setCell ⟨w.heap.size + 1 + 1 + 1,1,none⟩ (.int .i64 B.hi)):=zaw (zaw hbw (by omega)) (by omega)
 go_wp2
 exact zdl (l:=A) (r:=B) Tryz.results277 rfl rfl rfl rfl R.1 R.2.1 R.2.2.1 R.2.2.2 ⟨hX,rfl⟩
end Go.Proofs.YtfpgjkbjbbgciaaGreatDoor
