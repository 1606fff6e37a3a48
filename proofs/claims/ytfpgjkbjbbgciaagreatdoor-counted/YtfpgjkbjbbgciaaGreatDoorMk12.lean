import Derived.Test.YtfpgjkbjbbgciaaGreatDoorMk10
set_option maxRecDepth 100000
set_option maxHeartbeats 8000000
namespace Go.Proofs.YtfpgjkbjbbgciaaGreatDoor
open Go.RowKit Sp
theorem zgF(w:World)(a b:Obj)(w4:World)(hb:Below (((w.alloc a).alloc b).alloc (.cells #[.int .i64 0,.int .i64 0] 213)).heap.size (((w.alloc a).alloc b).alloc (.cells #[.int .i64 0,.int .i64 0] 213)) w4):
  w4.cell? ⟨w.heap.size+1+1,0,none⟩=some (.int .i64 0)∧w4.cell? ⟨w.heap.size+1+1,1,none⟩=some (.int .i64 0)∧w4.frozen? ⟨w.heap.size+1+1,0,none⟩=false∧w4.frozen? ⟨w.heap.size+1+1,1,none⟩=false∧Below w.heap.size w w4:=by
 have hs:(((w.alloc a).alloc b).alloc (.cells #[.int .i64 0,.int .i64 0] 213)).heap.size=w.heap.size+1+1+1:=by simp
 have d:Below w.heap.size w (((w.alloc a).alloc b).alloc (.cells #[.int .i64 0,.int .i64 0] 213)):=zaA;have c:∀ j,w4.frozen? ⟨w.heap.size+1+1,j,none⟩=false:=fun j=>(World.frozen?_of_block (w:=((w.alloc a).alloc b).alloc (.cells #[.int .i64 0,.int .i64 0] 213)) (a:=⟨w.heap.size+1+1,j,none⟩) (hb.block _ (show w.heap.size+1+1<_ by omega))).trans (zh9 _ _ _ _ _ j);exact⟨za5 hb (za3 _ _ _ _ _ 0),za5 hb (za3 _ _ _ _ _ 1),c 0,c 1,d.trans (hb.mono d.size)⟩
theorem zpE(r o:Rg)(w:World):Calls Tryz.prog 234 #[rv r,rv o] w fun e w'=>e=.returned (rv (r.plus o))∧Below w.heap.size w w':=by
 have a:=fun W=>zp6 (wrap64 (r.lo+o.lo)) r o W;have e0:zeW (wrap64 (r.lo+o.lo)) r o=r.plus o:=by rw [zc2];rfl
 rw [e0] at a;have T:=zgF w (.cells #[.int .i64 r.lo,.int .i64 r.hi] 213) (.cells #[.int .i64 o.lo,.int .i64 o.hi] 213);go_enter Tryz.func234,Tryz.ntmps234;go_wp2_with(go_at_call 235;(with_reducible refine(a _).mono ?_);rintro e g ⟨rfl,b⟩;obtain⟨d,f,g0,g1,c⟩:=T g b)
 exact zcd (r:=r.plus o) Tryz.results234 rfl rfl (za4 d f).1 (za4 d f).2 ⟨rfl,zaM c (by omega)⟩
theorem zui(r o:Rg)(w:World):Calls Tryz.prog 242 #[rv r,rv o] w fun e w'=>e=.returned (rv (r.minus o))∧Below w.heap.size w w':=by
 have a:=fun W=>zp6 (wrap64 (r.lo-o.hi)) r o W;have e0:zeW (wrap64 (r.lo-o.hi)) r o=r.minus o:=by rw [zc2];rfl
 rw [e0] at a;have T:=zgF w (.cells #[.int .i64 r.lo,.int .i64 r.hi] 213) (.cells #[.int .i64 o.lo,.int .i64 o.hi] 213);go_enter Tryz.func242,Tryz.ntmps242;go_wp2_with(go_at_call 235;(with_reducible refine(a _).mono ?_);rintro e g ⟨rfl,b⟩;obtain⟨d,f,g0,g1,c⟩:=T g b)
 exact zcd (r:=r.minus o) Tryz.results242 rfl rfl (za4 d f).1 (za4 d f).2 ⟨rfl,zaM c (by omega)⟩
theorem ziU(r o:Rg)(w:World)(hr:r.Ok)(hn:¬(r.lo=o.lo∧r.hi=o.hi∧r.lo=r.hi)):Calls Tryz.prog 278 #[rv r,rv o] w fun e w'=>e=.returned (rv (r.without o))∧Below w.heap.size w w':=by
 unfold Rg.Ok i64 at hr;by_cases a:o.lo=o.hi
 ·by_cases b:o.lo=r.lo
  ·have d:r.without o=⟨r.lo+1,r.hi⟩:=by unfold Rg.without;rw [if_pos a,if_pos b]
   have i:=zck (r.lo+1) r.hi;have f:(o.lo != o.hi)=false:=by simpa using a
   have j:(o.lo == r.lo)=true:=by simpa using b
   have h:r.lo+1≤9223372036854775807:=by omega
   have g:-9223372036854775808≤r.lo+1:=by omega
   go_enter Tryz.func278,Tryz.ntmps278;go_wp2;exact zcd (r:=⟨r.lo+1,r.hi⟩) Tryz.results278 rfl rfl (za3 _ _ _ _ _ 0) (za3 _ _ _ _ _ 1) ⟨by rw [d],zaA⟩
  ·have f:(o.lo != o.hi)=false:=by simpa using a
   have j:(o.lo == r.lo)=false:=by simpa using b
   by_cases c:o.lo=r.hi
   ·have d:r.without o=⟨r.lo,r.hi-1⟩:=by unfold Rg.without;rw [if_pos a,if_neg b,if_pos c]
    have i:=zck r.lo (r.hi-1);have k:(o.lo == r.hi)=true:=by simpa using c
    have h:r.hi-1≤9223372036854775807:=by omega
    have g:-9223372036854775808≤r.hi-1:=by omega
    go_enter Tryz.func278,Tryz.ntmps278;go_wp2;exact zcd (r:=⟨r.lo,r.hi-1⟩) Tryz.results278 rfl rfl (za3 _ _ _ _ _ 0) (za3 _ _ _ _ _ 1) ⟨by rw [d],zaA⟩
   ·have d:r.without o=r:=by unfold Rg.without;rw [if_pos a,if_neg b,if_neg c]
    have k:(o.lo == r.hi)=false:=by simpa using c
    go_enter Tryz.func278,Tryz.ntmps278;go_wp2;exact zcd (r:=r) Tryz.results278 rfl rfl (za3 _ _ _ _ _ 0) (za3 _ _ _ _ _ 1) ⟨by rw [d],zaA⟩
 ·have d:r.without o=r:=by unfold Rg.without;rw [if_neg a]
  have f:(o.lo != o.hi)=true:=by simpa using a
  go_enter Tryz.func278,Tryz.ntmps278;go_wp2;exact zcd (r:=r) Tryz.results278 rfl rfl (za3 _ _ _ _ _ 0) (za3 _ _ _ _ _ 1) ⟨by rw [d],zaA⟩
def zm7(r:Rg):Nat→Int
 | 0=>r.lo
 | 1=>r.lo
 | _=>r.hi
def zm8(o:Rg):Nat→Int
 | 0=>o.lo
 | 1=>o.hi
 | 2=>o.lo
 | _=>o.hi
structure TimesAt(w wr:World)(r o:Rg)(k:Nat):Prop where
 cells:∀ j,j<4→wr.cell? ⟨w.heap.size+1+1+1,j,none⟩=some (.int .i64 (if j<k then wrap64 (zm7 r j*zm8 o j) else 0))
 fz:∀ j,wr.frozen? ⟨w.heap.size+1+1+1,j,none⟩=false
 res:∀ j,j<2→wr.cell? ⟨w.heap.size+1+1,j,none⟩=some (.int .i64 0)
 rz:∀ j,wr.frozen? ⟨w.heap.size+1+1,j,none⟩=false
 low:Below w.heap.size w wr
 size:w.heap.size+1+1+1<wr.heap.size
 no:∀ j,j<k→zbP (zm7 r j) (zm8 o j)=false
theorem TimesAt.alloc{w wr:World}{r o:Rg}{k:Nat}(h:TimesAt w wr r o k)(x:Obj):TimesAt w (wr.alloc x) r o k:=by
 have c:Below wr.heap.size wr (wr.alloc x):=box1;have d:=h.size;have z:∀ b j,b<wr.heap.size→(wr.alloc x).frozen? ⟨b,j,none⟩=wr.frozen? ⟨b,j,none⟩:=fun b j hlt=>World.frozen?_of_block (w:=wr) (a:=⟨b,j,none⟩) (c.block b hlt);exact⟨fun j hj=>za5 c (h.cells j hj),fun j=>(z _ j d).trans (h.fz j),fun j hj=>za5 c (h.res j hj),fun j=>(z _ j (by omega)).trans (h.rz j),h.low.alloc h.low.size _,by simp;omega,h.no⟩
theorem TimesAt.put{w wr:World}{r o:Rg}{k:Nat}(h:TimesAt w wr r o k)(hk:k<4)(hn:zbP (zm7 r k) (zm8 o k)=false):TimesAt w (wr.setCell ⟨w.heap.size+1+1+1,k,none⟩ (.int .i64 (wrap64 (zm7 r k*zm8 o k)))) r o (k+1):=by
 have e:=fun j=>zat wr (w.heap.size+1+1+1) k j (.int .i64 (wrap64 (zm7 r k*zm8 o k))) _ (h.cells k hk);have c:(wr.setCell ⟨w.heap.size+1+1+1,k,none⟩ (.int .i64 (wrap64 (zm7 r k*zm8 o k)))).heap[w.heap.size+1+1]?=wr.heap[w.heap.size+1+1]?:=Below.heap_setCell _ _ _ _ (by show ¬w.heap.size+1+1=w.heap.size+1+1+1;omega);refine⟨fun j hj=>?_,fun j=>zcB wr _ _ j _ (h.fz j),fun j hj=>(World.cell?_of_block (w:=wr) (a:=⟨w.heap.size+1+1,j,none⟩) c).trans (h.res j hj),fun j=>(World.frozen?_of_block (w:=wr) (a:=⟨w.heap.size+1+1,j,none⟩) c).trans (h.rz j),h.low.setCell (p:=⟨w.heap.size+1+1+1,k,none⟩) (by show w.heap.size≤w.heap.size+1+1+1;omega) _,by simp [World.setCell];exact h.size,fun j hj=>?_⟩
 ·rw [e j];by_cases b:j=k
  ·subst b;rw [if_pos rfl,if_pos (by omega)]
  ·rw [if_neg b,h.cells j hj];by_cases d:j<k
   ·rw [if_pos d,if_pos (by omega)]
   ·rw [if_neg d,if_neg (by omega)]
 ·by_cases b:j=k
  ·subst b;exact hn
  ·exact h.no j (by omega)
theorem zec{r o:Rg}(h:¬(r.lo=r.hi∧o.lo=o.hi)){k:Nat}(hk:k<4)(hw:zbP (zm7 r k) (zm8 o k)=true):r.times o=anyR:=by
 unfold Rg.times;rw [if_neg h,if_pos]
 match k,hk with
 | 0,_=>exact .inl hw
 | 1,_=>exact .inr (.inl hw)
 | 2,_=>exact .inr (.inr (.inl hw))
 | 3,_=>exact .inr (.inr (.inr hw))
theorem zov{r o:Rg}(hr:r.Ok)(ho:o.Ok)(h:¬(r.lo=r.hi∧o.lo=o.hi))(hn:∀ j,j<4→zbP (zm7 r j) (zm8 o j)=false):
  r.times o=⟨zhu [wrap64 (r.lo*o.lo),wrap64 (r.lo*o.hi),wrap64 (r.hi*o.lo),wrap64 (r.hi*o.hi)] 3,zhv [wrap64 (r.lo*o.lo),wrap64 (r.lo*o.hi),wrap64 (r.hi*o.lo),wrap64 (r.hi*o.hi)] 3⟩:=by
 have d:zbP r.lo o.lo=false:=hn 0 (by omega);have a:zbP r.lo o.hi=false:=hn 1 (by omega);have b:zbP r.hi o.lo=false:=hn 2 (by omega);have c:zbP r.hi o.hi=false:=hn 3 (by omega);unfold Rg.times;rw [if_neg h,if_neg (by rw [d,a,b,c];simp)];rw [zc2,zc2,zc2,zc2,zfX (zcj hr.1 ho.1 d),zfX (zcj hr.1 ho.2.1 a),zfX (zcj hr.2.1 ho.1 b),zfX (zcj hr.2.1 ho.2.1 c)];rfl
theorem zuj(r o:Rg)(w:World)(h1:r.lo=r.hi)(h2:o.lo=o.hi):Calls Tryz.prog 245 #[rv r,rv o] w fun e w'=>e=.returned (rv (r.times o))∧Below w.heap.size w w':=by
 obtain⟨a,b⟩:=r;obtain⟨c,d⟩:=o;simp only at h1 h2;subst h1 h2;have e0:Rg.times ⟨a,a⟩ ⟨c,c⟩=only (wrap64 (a*c)):=by unfold Rg.times;rw [if_pos ⟨rfl,rfl⟩,zc2]
 rw [e0];have f:=fun W=>zh7 (wrap64 (a*c)) W;have T:=zgF w (.cells #[.int .i64 a,.int .i64 a] 213) (.cells #[.int .i64 c,.int .i64 c] 213);go_enter Tryz.func245,Tryz.ntmps245;go_wp2_with(go_at_call 226;(with_reducible refine(f _).mono ?_);rintro e k ⟨rfl,g⟩;obtain⟨i,j,g0,g1,h⟩:=T k g)
 exact zcd (r:=only (wrap64 (a*c))) Tryz.results245 rfl rfl (za4 i j).1 (za4 i j).2 ⟨rfl,zaM h (by omega)⟩
def zey(w:World)(_l _r:Rg)(q:Option (Rg × Rg)):Ending→World→Prop:=fun e w'=>Below w.heap.size w w'∧match q with
 | none=>∃ a b,e=.returned (.tuple #[rv a,rv b,.bool false])
 | some (a,b)=>e=.returned (.tuple #[rv a,rv b,.bool true])
theorem zof{fn:Func}{a b c:Tmp}{t:TypeId}(h:fn.results=#[.cell a t,.cell b t,.tmp c])(tmps:Array Value)(p q:Addr)(hp:tmps.getD a undef=.pointer (some p))(hq:tmps.getD b undef=.pointer (some q)){P:Program}{w:World}{u v:Value}(hl:(loadVar t p).run P w=.ok u w)(hm:(loadVar t q).run P w=.ok v w):(results fn tmps).run P w=.ok (.tuple #[u,v,tmps.getD c undef]) w:=by
 have d:tmps[a]?.getD undef=.pointer (some p):=by simpa using hp
 have e:tmps[b]?.getD undef=.pointer (some q):=by simpa using hq
 simp [results,h,d,e,asAddr,hl,hm]
theorem zez{fn:Func}{a b c:Tmp}{Q:Ending→World→Prop}{X:World}{act:Act}{p q:Nat}{l r:Rg}{x:Bool}(hr:fn.results=#[.cell a 213,.cell b 213,.tmp c])(hp:act.tmps.getD a undef=.pointer (some ⟨p,0,none⟩))(hq:act.tmps.getD b undef=.pointer (some ⟨q,0,none⟩))(hc:act.tmps.getD c undef=.bool x)(hd:act.defers=[])
  (h0:X.cell? ⟨p,0,none⟩=some (.int .i64 l.lo)) (h1:X.cell? ⟨p,1,none⟩=some (.int .i64 l.hi)) (h2:X.cell? ⟨q,0,none⟩=some (.int .i64 r.lo)) (h3:X.cell? ⟨q,1,none⟩=some (.int .i64 r.hi)) (hQ:Q (.returned (.tuple #[rv l,rv r,.bool x])) X):bodyPost Tryz.prog fn Q .ret act X:=by
 have h:=zof hr act.tmps ⟨p,0,none⟩ ⟨q,0,none⟩ hp hq (zoe h0 h1) (zoe h2 h3);rw [hc] at h;exact bodyPost_ret h hd hQ
theorem zaC(w:World)(a b c:Obj)(cs:Array Value)(t:TypeId)(j:Nat):((((w.alloc a).alloc b).alloc c).alloc (.cells cs t)).cell? ⟨w.heap.size+1+1+1,j,none⟩=cs[j]?:=by
 have h:=World.cell?_alloc_new (w:=((w.alloc a).alloc b).alloc c) cs t j;rw [show(((w.alloc a).alloc b).alloc c).heap.size=w.heap.size+1+1+1 by simp] at h;exact h
theorem zaR(w:World)(a b d:Obj)(cs:Array Value)(t:TypeId)(j:Nat):((((w.alloc a).alloc b).alloc (.cells cs t)).alloc d).cell? ⟨w.heap.size+1+1,j,none⟩=cs[j]?:=by
 rw [←za3 w a b cs t j];exact World.cell?_of_block (w:=((w.alloc a).alloc b).alloc (.cells cs t)) (((Below.refl (((w.alloc a).alloc b).alloc (.cells cs t)).heap.size (((w.alloc a).alloc b).alloc (.cells cs t))).alloc (Nat.le_refl _) d).block (w.heap.size+1+1) (by simp))
theorem zga(w:World)(a b c d:Obj)(x y:Int):(((((w.alloc a).alloc b).alloc c).alloc d).alloc (.cells #[.int .i64 x,.int .i64 y] 213)).cell? ⟨w.heap.size+1+1+1+1,0,none⟩=some (.int .i64 x)∧(((((w.alloc a).alloc b).alloc c).alloc d).alloc (.cells #[.int .i64 x,.int .i64 y] 213)).cell? ⟨w.heap.size+1+1+1+1,1,none⟩=some (.int .i64 y):=by
 have h:=fun j=>World.cell?_alloc_new (w:=(((w.alloc a).alloc b).alloc c).alloc d) #[.int .i64 x,.int .i64 y] 213 j;rw [show((((w.alloc a).alloc b).alloc c).alloc d).heap.size=w.heap.size+1+1+1+1 by simp] at h;exact⟨h 0,h 1⟩
theorem zbV{w:World}{a b c d:Obj}:Below w.heap.size w ((((w.alloc a).alloc b).alloc c).alloc d):=zaA.alloc (by simp;omega) _
theorem ziF(w:World)(l r:Rg)(c d:Obj):
  ((((w.alloc (.cells #[.int .i64 l.lo,.int .i64 l.hi] 213)).alloc (.cells #[.int .i64 r.lo,.int .i64 r.hi] 213)).alloc c).alloc d).cell? ⟨w.heap.size,0,none⟩=some (.int .i64 l.lo)∧((((w.alloc (.cells #[.int .i64 l.lo,.int .i64 l.hi] 213)).alloc (.cells #[.int .i64 r.lo,.int .i64 r.hi] 213)).alloc c).alloc d).cell? ⟨w.heap.size,1,none⟩=some (.int .i64 l.hi) ∧
  ((((w.alloc (.cells #[.int .i64 l.lo,.int .i64 l.hi] 213)).alloc (.cells #[.int .i64 r.lo,.int .i64 r.hi] 213)).alloc c).alloc d).cell? ⟨w.heap.size+1,0,none⟩=some (.int .i64 r.lo)∧((((w.alloc (.cells #[.int .i64 l.lo,.int .i64 l.hi] 213)).alloc (.cells #[.int .i64 r.lo,.int .i64 r.hi] 213)).alloc c).alloc d).cell? ⟨w.heap.size+1,1,none⟩=some (.int .i64 r.hi) :=
 zdb box1 ⟨zaZ _ _ _ _ _ 0,zaZ _ _ _ _ _ 1,zcw _ _ _ _ _ 0,zcw _ _ _ _ _ 1⟩
theorem zwI(l r:Rg)(w:World)(hl:l.Ok)(hr:r.Ok):Calls Tryz.prog 271 #[rv l,rv r] w (zey w l r (zdl l r)):=by
 unfold Rg.Ok i64 at hl hr;by_cases h:r.hi≤l.lo
 ·have f:zdl l r=none:=by unfold zdl;rw [if_pos h]
  rw [f];go_enter Tryz.func271,Tryz.ntmps271;go_wp2
  go_region
  all_goals go_wp2
  all_goals exact zez Tryz.results271 rfl rfl rfl rfl (zaR _ _ _ _ _ _ 0) (zaR _ _ _ _ _ _ 1) (zaC _ _ _ _ _ _ 0) (zaC _ _ _ _ _ _ 1) ⟨zbV.drew,_,_,rfl⟩
 ·have f:zdl l r=some (⟨l.lo,min l.hi (r.hi-1)⟩,⟨max (l.lo+1) r.lo,r.hi⟩):=by unfold zdl;rw [if_neg h]
  rw [f];have hb1:=zck l.lo (min l.hi (r.hi-1));have hb2:=zck (max (l.lo+1) r.lo) r.hi;have c:l.lo+1≤9223372036854775807:=by omega
  have b:-9223372036854775808≤l.lo+1:=by omega
  have d:r.hi-1≤9223372036854775807:=by omega
  have e:-9223372036854775808≤r.hi-1:=by omega
  have w1:IntKind.i64.wrap (r.hi-1)=r.hi-1:=by rw [zhA];exact zfX ⟨e,d⟩
  have w2:IntKind.i64.wrap (l.lo+1)=l.lo+1:=by rw [zhA];exact zfX ⟨b,c⟩
  have a:=ziF w l r (.cells #[.int .i64 0,.int .i64 0] 213) (.cells #[.int .i64 0,.int .i64 0] 213);go_enter Tryz.func271,Tryz.ntmps271;go_wp2;go_region_held3 (fun W=>W.cell? ⟨w.heap.size,0,none⟩=some (.int .i64 l.lo)∧W.cell? ⟨w.heap.size,1,none⟩=some (.int .i64 l.hi)∧W.cell? ⟨w.heap.size+1,0,none⟩=some (.int .i64 r.lo)∧W.cell? ⟨w.heap.size+1,1,none⟩=some (.int .i64 r.hi))
   (first|exact a|go_keep)
   (fail)
  all_goals go_wp2
  all_goals exact zez (l:=⟨l.lo,min l.hi (r.hi-1)⟩) (r:=⟨max (l.lo+1) r.lo,r.hi⟩) Tryz.results271 rfl rfl rfl rfl (zaR _ _ _ _ _ _ 0) (zaR _ _ _ _ _ _ 1) (zaC _ _ _ _ _ _ 0) (zaC _ _ _ _ _ _ 1) ⟨zbV.drew,rfl⟩
theorem zog(l r:Rg)(w:World):Calls Tryz.prog 272 #[rv l,rv r] w (zey w l r (zaD l r)):=by
 by_cases h:l.hi<r.lo
 ·have b:zaD l r=none:=by unfold zaD;rw [if_pos h]
  rw [b];go_enter Tryz.func272,Tryz.ntmps272;go_wp2
  go_region
  all_goals go_wp2
  all_goals exact zez Tryz.results272 rfl rfl rfl rfl (zaR _ _ _ _ _ _ 0) (zaR _ _ _ _ _ _ 1) (zaC _ _ _ _ _ _ 0) (zaC _ _ _ _ _ _ 1) ⟨zbV.drew,_,_,rfl⟩
 ·have b:zaD l r=some (⟨max l.lo r.lo,l.hi⟩,⟨r.lo,min l.hi r.hi⟩):=by unfold zaD;rw [if_neg h]
  rw [b];have hb1:=zck (max l.lo r.lo) l.hi;have hb2:=zck r.lo (min l.hi r.hi);have a:=ziF w l r (.cells #[.int .i64 0,.int .i64 0] 213) (.cells #[.int .i64 0,.int .i64 0] 213);go_enter Tryz.func272,Tryz.ntmps272;go_wp2;go_region_held3 (fun W=>W.cell? ⟨w.heap.size,0,none⟩=some (.int .i64 l.lo)∧W.cell? ⟨w.heap.size,1,none⟩=some (.int .i64 l.hi)∧W.cell? ⟨w.heap.size+1,0,none⟩=some (.int .i64 r.lo)∧W.cell? ⟨w.heap.size+1,1,none⟩=some (.int .i64 r.hi))
   (first|exact a|go_keep)
   (fail)
  all_goals go_wp2
  all_goals exact zez (l:=⟨max l.lo r.lo,l.hi⟩) (r:=⟨r.lo,min l.hi r.hi⟩) Tryz.results272 rfl rfl rfl rfl (zaR _ _ _ _ _ _ 0) (zaR _ _ _ _ _ _ 1) (zaC _ _ _ _ _ _ 0) (zaC _ _ _ _ _ _ 1) ⟨zbV.drew,rfl⟩
theorem zow(w:World)(r o:Rg):TimesAt w ((((w.alloc (.cells #[.int .i64 r.lo,.int .i64 r.hi] 213)).alloc (.cells #[.int .i64 o.lo,.int .i64 o.hi] 213)).alloc (.cells #[.int .i64 0,.int .i64 0] 213)).alloc (.cells #[.int .i64 0,.int .i64 0,.int .i64 0,.int .i64 0] 304)) r o 0:=by
 have hs:((((w.alloc (.cells #[.int .i64 r.lo,.int .i64 r.hi] 213)).alloc (.cells #[.int .i64 o.lo,.int .i64 o.hi] 213)).alloc (.cells #[.int .i64 0,.int .i64 0] 213)).alloc (.cells #[.int .i64 0,.int .i64 0,.int .i64 0,.int .i64 0] 304)).heap.size=w.heap.size+1+1+1+1:=by simp
 refine⟨fun j hj=>?_,fun j=>World.frozen?_alloc_at _ _ _ _ (by simp),fun j hj=>?_,fun j=>(World.frozen?_alloc_past _ _ _ (by simp)).trans (zh9 _ _ _ _ _ j),zbV,by omega,fun j hj=>by omega⟩
 ·rw [if_neg (by omega),zaC]
  match j,hj with
  | 0,_=>rfl
  | 1,_=>rfl
  | 2,_=>rfl
  | 3,_=>rfl
 ·rw [zaR]
  match j,hj with
  | 0,_=>rfl
  | 1,_=>rfl
theorem zdz{w w':World}(hb:Below w.heap.size w w'){b j:Nat}(hlt:b<w.heap.size)(h:w.frozen? ⟨b,j,none⟩=false):w'.frozen? ⟨b,j,none⟩=false:=(World.frozen?_of_block (w:=w) (a:=⟨b,j,none⟩) (hb.block b hlt)).trans h
theorem zrx(x0 x1 x2 x3 x4 x5 x6 x7:Int)(W:World):(Instr.index 306 (.agg #[.int .i64 x0,.int .i64 x1,.int .i64 x2,.int .i64 x3,.int .i64 x4,.int .i64 x5,.int .i64 x6,.int .i64 x7]) (.int .i64 0)).run Tryz.prog W=.ok (.agg #[.int .i64 x0,.int .i64 x1]) W:=by kernel_rfl
theorem zry(x0 x1 x2 x3 x4 x5 x6 x7:Int)(W:World):(Instr.index 306 (.agg #[.int .i64 x0,.int .i64 x1,.int .i64 x2,.int .i64 x3,.int .i64 x4,.int .i64 x5,.int .i64 x6,.int .i64 x7]) (.int .i64 1)).run Tryz.prog W=.ok (.agg #[.int .i64 x2,.int .i64 x3]) W:=by kernel_rfl
theorem zrz(x0 x1 x2 x3 x4 x5 x6 x7:Int)(W:World):(Instr.index 306 (.agg #[.int .i64 x0,.int .i64 x1,.int .i64 x2,.int .i64 x3,.int .i64 x4,.int .i64 x5,.int .i64 x6,.int .i64 x7]) (.int .i64 2)).run Tryz.prog W=.ok (.agg #[.int .i64 x4,.int .i64 x5]) W:=by kernel_rfl
theorem zr0(x0 x1 x2 x3 x4 x5 x6 x7:Int)(W:World):(Instr.index 306 (.agg #[.int .i64 x0,.int .i64 x1,.int .i64 x2,.int .i64 x3,.int .i64 x4,.int .i64 x5,.int .i64 x6,.int .i64 x7]) (.int .i64 3)).run Tryz.prog W=.ok (.agg #[.int .i64 x6,.int .i64 x7]) W:=by kernel_rfl
theorem zuk(a b c d:Int)(w:World)(hr:(⟨a,b⟩:Rg).Ok)(ho:(⟨c,d⟩:Rg).Ok)(hn:(a == b)=false∨((a == b)=true∧(c == d)=false)):Calls Tryz.prog 245 #[rv (⟨a,b⟩:Rg),rv (⟨c,d⟩:Rg)] w fun e w'=>e=.returned (rv ((⟨a,b⟩:Rg).times (⟨c,d⟩:Rg)))∧Below w.heap.size w w':=by
 have u:¬((⟨a,b⟩:Rg).lo=(⟨a,b⟩:Rg).hi∧(⟨c,d⟩:Rg).lo=(⟨c,d⟩:Rg).hi):=fun h=>by
  rcases hn with t|⟨_,t⟩
  ·simp at t;exact t h.1
  ·simp at t;exact t h.2
 have O:=zow w (⟨a,b⟩:Rg) (⟨c,d⟩:Rg);have hb5:∀ a b W,(Instr.build 305 #[(0,.int .i64 a),(1,.int .i64 b)]).run Tryz.prog W=.ok (.agg #[.int .i64 a,.int .i64 b]) W:=fun a b W=>run_build W 305 _ _ (by kernel_rfl);have hb6:∀ a b c d W,(Instr.build 306 #[(0,.agg #[.int .i64 a,.int .i64 b]),(1,.agg #[.int .i64 a,.int .i64 d]),(2,.agg #[.int .i64 c,.int .i64 b]),(3,.agg #[.int .i64 c,.int .i64 d])]).run Tryz.prog W=.ok (.agg #[.int .i64 a,.int .i64 b,.int .i64 a,.int .i64 d,.int .i64 c,.int .i64 b,.int .i64 c,.int .i64 d]) W:=fun a b c d W=>run_build W 306 _ _ (by kernel_rfl);have hx0:=zrx;have hx1:=zry;have hx2:=zrz;have hx3:=zr0;rcases hn with Y|⟨t0,Y⟩
 all_goals
  go_enter Tryz.func245,Tryz.ntmps245;go_wp2;change TimesAt w ((((w.alloc (.cells #[.int .i64 a,.int .i64 b] 213)).alloc (.cells #[.int .i64 c,.int .i64 d] 213)).alloc (.cells #[.int .i64 0,.int .i64 0] 213)).alloc (.cells #[.int .i64 0,.int .i64 0,.int .i64 0,.int .i64 0] 304)) _ _ _ at O;generalize (((w.alloc (.cells #[.int .i64 a,.int .i64 b] 213)).alloc (.cells #[.int .i64 c,.int .i64 d] 213)).alloc (.cells #[.int .i64 0,.int .i64 0] 213)).alloc (.cells #[.int .i64 0,.int .i64 0,.int .i64 0,.int .i64 0] 304)=Ws at O
  go_loopw [47] (fun ti wr=>∃ k:Nat,k≤4∧ti=.int .i64 (k:Int)∧TimesAt w wr (⟨a,b⟩:Rg) (⟨c,d⟩:Rg) k) (fun ti _=>4-(intOf ti).toNat)
  case atStart=>exact⟨0,by omega,rfl,O⟩
  case round =>
   obtain⟨k,hk,rfl,Z⟩:=hrel;by_cases hlt:k<4
   ·have J:k=0∨k=1∨k=2∨k=3:=by omega
    have p:=zkJ;rcases J with rfl|rfl|rfl|rfl
    ·have i:=fun W=>zfY a c W;have g:=Z.alloc (.cells #[.int .i64 a,.int .i64 c] 305);have H:=g.cells 0 (by omega);have I:=g.fz 0;cases hwq:zbP a c with
     | true =>
      have M:=zec (r:=(⟨a,b⟩:Rg)) (o:=(⟨c,d⟩:Rg)) u (k:=0) (by omega) hwq;rw [hwq] at i;have v:=g.res 0 (by omega);have z:=g.res 1 (by omega);have D:=g.rz 0;have E:=g.rz 1;have m:=g.low;have L:=g.size;clear Z g H I;go_wp2_with(first|(go_at_call 246;(with_reducible refine(i _).mono ?_);rintro e A ⟨rfl,l⟩;have n:=l.symm;subst n)|(go_at_call 238;(with_reducible refine(p _).mono ?_);rintro e R ⟨rfl,f⟩;have q:=za5 f v;have s:=za5 f z;have P:=zdz f (by omega) D;have Q:=zdz f (by omega) E))
      exact zcd (r:=anyR) Tryz.results245 rfl rfl (za4 q s).1 (za4 q s).2 ⟨by rw [M],zaM (m.trans (f.mono m.size)) (by omega)⟩
     | false =>
      rw [hwq] at i;have G:=g.put (by omega) hwq;clear Z;go_wp2_with(go_at_call 246;(with_reducible refine(i _).mono ?_);rintro e A ⟨rfl,l⟩;have n:=l.symm;subst n)
      go_roundw
      case rel=>exact⟨1,by omega,rfl,G⟩
      case measure=>simp [intOf]
    ·have i:=fun W=>zfY a d W;have g:=Z.alloc (.cells #[.int .i64 a,.int .i64 d] 305);have H:=g.cells 1 (by omega);have I:=g.fz 1;cases hwq:zbP a d with
     | true =>
      have M:=zec (r:=(⟨a,b⟩:Rg)) (o:=(⟨c,d⟩:Rg)) u (k:=1) (by omega) hwq;rw [hwq] at i;have v:=g.res 0 (by omega);have z:=g.res 1 (by omega);have D:=g.rz 0;have E:=g.rz 1;have m:=g.low;have L:=g.size;clear Z g H I;go_wp2_with(first|(go_at_call 246;(with_reducible refine(i _).mono ?_);rintro e A ⟨rfl,l⟩;have n:=l.symm;subst n)|(go_at_call 238;(with_reducible refine(p _).mono ?_);rintro e R ⟨rfl,f⟩;have q:=za5 f v;have s:=za5 f z;have P:=zdz f (by omega) D;have Q:=zdz f (by omega) E))
      exact zcd (r:=anyR) Tryz.results245 rfl rfl (za4 q s).1 (za4 q s).2 ⟨by rw [M],zaM (m.trans (f.mono m.size)) (by omega)⟩
     | false =>
      rw [hwq] at i;have G:=g.put (by omega) hwq;clear Z;go_wp2_with(go_at_call 246;(with_reducible refine(i _).mono ?_);rintro e A ⟨rfl,l⟩;have n:=l.symm;subst n)
      go_roundw
      case rel=>exact⟨2,by omega,rfl,G⟩
      case measure=>simp [intOf]
    ·have i:=fun W=>zfY b c W;have g:=Z.alloc (.cells #[.int .i64 b,.int .i64 c] 305);have H:=g.cells 2 (by omega);have I:=g.fz 2;cases hwq:zbP b c with
     | true =>
      have M:=zec (r:=(⟨a,b⟩:Rg)) (o:=(⟨c,d⟩:Rg)) u (k:=2) (by omega) hwq;rw [hwq] at i;have v:=g.res 0 (by omega);have z:=g.res 1 (by omega);have D:=g.rz 0;have E:=g.rz 1;have m:=g.low;have L:=g.size;clear Z g H I;go_wp2_with(first|(go_at_call 246;(with_reducible refine(i _).mono ?_);rintro e A ⟨rfl,l⟩;have n:=l.symm;subst n)|(go_at_call 238;(with_reducible refine(p _).mono ?_);rintro e R ⟨rfl,f⟩;have q:=za5 f v;have s:=za5 f z;have P:=zdz f (by omega) D;have Q:=zdz f (by omega) E))
      exact zcd (r:=anyR) Tryz.results245 rfl rfl (za4 q s).1 (za4 q s).2 ⟨by rw [M],zaM (m.trans (f.mono m.size)) (by omega)⟩
     | false =>
      rw [hwq] at i;have G:=g.put (by omega) hwq;clear Z;go_wp2_with(go_at_call 246;(with_reducible refine(i _).mono ?_);rintro e A ⟨rfl,l⟩;have n:=l.symm;subst n)
      go_roundw
      case rel=>exact⟨3,by omega,rfl,G⟩
      case measure=>simp [intOf]
    ·have i:=fun W=>zfY b d W;have g:=Z.alloc (.cells #[.int .i64 b,.int .i64 d] 305);have H:=g.cells 3 (by omega);have I:=g.fz 3;cases hwq:zbP b d with
     | true =>
      have M:=zec (r:=(⟨a,b⟩:Rg)) (o:=(⟨c,d⟩:Rg)) u (k:=3) (by omega) hwq;rw [hwq] at i;have v:=g.res 0 (by omega);have z:=g.res 1 (by omega);have D:=g.rz 0;have E:=g.rz 1;have m:=g.low;have L:=g.size;clear Z g H I;go_wp2_with(first|(go_at_call 246;(with_reducible refine(i _).mono ?_);rintro e A ⟨rfl,l⟩;have n:=l.symm;subst n)|(go_at_call 238;(with_reducible refine(p _).mono ?_);rintro e R ⟨rfl,f⟩;have q:=za5 f v;have s:=za5 f z;have P:=zdz f (by omega) D;have Q:=zdz f (by omega) E))
      exact zcd (r:=anyR) Tryz.results245 rfl rfl (za4 q s).1 (za4 q s).2 ⟨by rw [M],zaM (m.trans (f.mono m.size)) (by omega)⟩
     | false =>
      rw [hwq] at i;have G:=g.put (by omega) hwq;clear Z;go_wp2_with(go_at_call 246;(with_reducible refine(i _).mono ?_);rintro e A ⟨rfl,l⟩;have n:=l.symm;subst n)
      go_roundw
      case rel=>exact⟨4,by omega,rfl,G⟩
      case measure=>simp [intOf]
   ·obtain rfl:k=4:=by omega
    have M:=zov hr ho u Z.no;have S:wr.cell? ⟨w.heap.size+1+1+1,0,none⟩=some (.int .i64 (wrap64 (a*c))):=Z.cells 0 (by omega);have T:wr.cell? ⟨w.heap.size+1+1+1,1,none⟩=some (.int .i64 (wrap64 (a*d))):=Z.cells 1 (by omega);have U:wr.cell? ⟨w.heap.size+1+1+1,2,none⟩=some (.int .i64 (wrap64 (b*c))):=Z.cells 2 (by omega);have V:wr.cell? ⟨w.heap.size+1+1+1,3,none⟩=some (.int .i64 (wrap64 (b*d))):=Z.cells 3 (by omega);have K:∀ j (h:j<[wrap64 (a*c),wrap64 (a*d),wrap64 (b*c),wrap64 (b*d)].length),wr.cell? ⟨w.heap.size+1+1+1,j,none⟩=some (.int .i64 [wrap64 (a*c),wrap64 (a*d),wrap64 (b*c),wrap64 (b*d)][j]):=fun j hj=>by
     match j,hj with
     | 0,_=>exact S
     | 1,_=>exact T
     | 2,_=>exact U
     | 3,_=>exact V
    have C:Calls Tryz.prog 247 #[.slice (some ⟨w.heap.size+1+1+1,0,none⟩) 4 4] wr.drew fun e w'=>e=.returned (.int .i64 (zhu [wrap64 (a*c),wrap64 (a*d),wrap64 (b*c),wrap64 (b*d)] 3))∧w'=wr.drew:=zwZ wr.drew (w.heap.size+1+1+1) 4 [wrap64 (a*c),wrap64 (a*d),wrap64 (b*c),wrap64 (b*d)] (by simp) (by simp) K;have B:Calls Tryz.prog 248 #[.slice (some ⟨w.heap.size+1+1+1,0,none⟩) 4 4] wr.drew fun e w'=>e=.returned (.int .i64 (zhv [wrap64 (a*c),wrap64 (a*d),wrap64 (b*c),wrap64 (b*d)] 3))∧w'=wr.drew:=zxa wr.drew (w.heap.size+1+1+1) 4 [wrap64 (a*c),wrap64 (a*d),wrap64 (b*c),wrap64 (b*d)] (by simp) (by simp) K;have v:=Z.res 0 (by omega);have z:=Z.res 1 (by omega);have D:=Z.rz 0;have E:=Z.rz 1;have m:=Z.low;have N:=zck (zhu [wrap64 (a*c),wrap64 (a*d),wrap64 (b*c),wrap64 (b*d)] 3) (zhv [wrap64 (a*c),wrap64 (a*d),wrap64 (b*c),wrap64 (b*d)] 3);clear Z K S T U V;generalize zhu [wrap64 (a*c),wrap64 (a*d),wrap64 (b*c),wrap64 (b*d)] 3=x at C N M;generalize zhv [wrap64 (a*c),wrap64 (a*d),wrap64 (b*c),wrap64 (b*d)] 3=y at B N M;go_wp2;go_region_held3 (fun _=>True)
     (trivial)
     (first|(go_at_call 247;(with_reducible refine C.mono ?_);rintro e A ⟨rfl,l⟩;have n:=l.symm;subst n)|(go_at_call 248;(with_reducible refine B.mono ?_);rintro e A ⟨rfl,l⟩;have n:=l.symm;subst n))
    go_wp2;exact zcd (r:=⟨x,y⟩) Tryz.results245 rfl rfl (za4 (X:=wr.drew) v z).1 (za4 (X:=wr.drew) v z).2 ⟨by rw [M],zaM m.drew (by omega)⟩
end Go.Proofs.YtfpgjkbjbbgciaaGreatDoor
