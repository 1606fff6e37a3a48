import Derived.Test.YtfpgjkbjbbgciaaGreatDoorMd31
import Derived.Test.YtfpgjkbjbbgciaaGreatDoorMd32
set_option maxRecDepth 100000
set_option maxHeartbeats 8000000
namespace Go.Proofs.YtfpgjkbjbbgciaaGreatDoor
open Go.RowKit Sp
def zlI(r:Rg):Nat→Int
 | 0=>r.lo
 | 1=>r.lo
 | _=>r.hi
def zlJ(o:Rg):Nat→Int
 | 0=>o.lo
 | 1=>o.hi
 | 2=>o.lo
 | _=>o.hi
structure TimesAt(w wr:World)(r o:Rg)(k:Nat):Prop where
 cells:∀ j,j<4→wr.cell? ⟨w.heap.size+1+1+1,j,none⟩=some (.int .i64 (if j<k then wrap64 (zlI r j*zlJ o j) else 0))
 fz:∀ j,wr.frozen? ⟨w.heap.size+1+1+1,j,none⟩=false
 res:∀ j,j<2→wr.cell? ⟨w.heap.size+1+1,j,none⟩=some (.int .i64 0)
 rz:∀ j,wr.frozen? ⟨w.heap.size+1+1,j,none⟩=false
 low:Below w.heap.size w wr
 size:w.heap.size+1+1+1<wr.heap.size
 no:∀ j,j<k→zbC (zlI r j) (zlJ o j)=false
theorem TimesAt.alloc{w wr:World}{r o:Rg}{k:Nat}(h:TimesAt w wr r o k)(x:Obj):TimesAt w (wr.alloc x) r o k:=by
 have hb:Below wr.heap.size wr (wr.alloc x):=box1
 have hs:=h.size
 have z:∀ b j,b<wr.heap.size→(wr.alloc x).frozen? ⟨b,j,none⟩=wr.frozen? ⟨b,j,none⟩:=fun b j hlt=>World.frozen?_of_block (w:=wr) (a:=⟨b,j,none⟩) (hb.block b hlt)
 exact⟨fun j hj=>zaC hb (h.cells j hj),fun j=>(z _ j hs).trans (h.fz j),fun j hj=>zaC hb (h.res j hj),fun j=>(z _ j (by omega)).trans (h.rz j),h.low.alloc h.low.size _,by simp;omega,h.no⟩
theorem TimesAt.put{w wr:World}{r o:Rg}{k:Nat}(h:TimesAt w wr r o k)(hk:k<4)(hn:zbC (zlI r k) (zlJ o k)=false):TimesAt w (wr.setCell ⟨w.heap.size+1+1+1,k,none⟩ (.int .i64 (wrap64 (zlI r k*zlJ o k)))) r o (k+1):=by
 have e:=fun j=>zan wr (w.heap.size+1+1+1) k j (.int .i64 (wrap64 (zlI r k*zlJ o k))) _ (h.cells k hk)
 have bl:(wr.setCell ⟨w.heap.size+1+1+1,k,none⟩ (.int .i64 (wrap64 (zlI r k*zlJ o k)))).heap[w.heap.size+1+1]?=wr.heap[w.heap.size+1+1]?:=Below.heap_setCell _ _ _ _ (by show ¬w.heap.size+1+1=w.heap.size+1+1+1;omega)
 refine⟨fun j hj=>?_,fun j=>zbI wr _ _ j _ (h.fz j),fun j hj=>(World.cell?_of_block (w:=wr) (a:=⟨w.heap.size+1+1,j,none⟩) bl).trans (h.res j hj),fun j=>(World.frozen?_of_block (w:=wr) (a:=⟨w.heap.size+1+1,j,none⟩) bl).trans (h.rz j),h.low.setCell (p:=⟨w.heap.size+1+1+1,k,none⟩) (by show w.heap.size≤w.heap.size+1+1+1;omega) _,by simp [World.setCell];exact h.size,fun j hj=>?_⟩
 ·rw [e j]
  by_cases hjk:j=k
  ·subst hjk;rw [if_pos rfl,if_pos (by omega)]
  ·rw [if_neg hjk,h.cells j hj]
   by_cases h1:j<k
   ·rw [if_pos h1,if_pos (by omega)]
   ·rw [if_neg h1,if_neg (by omega)]
 ·by_cases hjk:j=k
  ·subst hjk;exact hn
  ·exact h.no j (by omega)
theorem zck{r o:Rg}(h:¬(r.lo=r.hi∧o.lo=o.hi)){k:Nat}(hk:k<4)(hw:zbC (zlI r k) (zlJ o k)=true):r.times o=anyR:=by
 unfold Rg.times
 rw [if_neg h,if_pos]
 match k,hk with
 | 0,_=>exact .inl hw
 | 1,_=>exact .inr (.inl hw)
 | 2,_=>exact .inr (.inr (.inl hw))
 | 3,_=>exact .inr (.inr (.inr hw))
theorem zig{r o:Rg}(hr:r.Ok)(ho:o.Ok)(h:¬(r.lo=r.hi∧o.lo=o.hi))(hn:∀ j,j<4→zbC (zlI r j) (zlJ o j)=false):
  r.times o=⟨zf2 [wrap64 (r.lo*o.lo),wrap64 (r.lo*o.hi),wrap64 (r.hi*o.lo),wrap64 (r.hi*o.hi)] 3,zf3 [wrap64 (r.lo*o.lo),wrap64 (r.lo*o.hi),wrap64 (r.hi*o.lo),wrap64 (r.hi*o.hi)] 3⟩:=by
 have h0:zbC r.lo o.lo=false:=hn 0 (by omega)
 have h1:zbC r.lo o.hi=false:=hn 1 (by omega)
 have h2:zbC r.hi o.lo=false:=hn 2 (by omega)
 have h3:zbC r.hi o.hi=false:=hn 3 (by omega)
 unfold Rg.times
 rw [if_neg h,if_neg (by rw [h0,h1,h2,h3];simp)]
 rw [zcz,zcz,zcz,zcz,zfV (zc0 hr.1 ho.1 h0),zfV (zc0 hr.1 ho.2.1 h1),zfV (zc0 hr.2.1 ho.1 h2),zfV (zc0 hr.2.1 ho.2.1 h3)]
 rfl
theorem zti(r o:Rg)(w:World)(h1:r.lo=r.hi)(h2:o.lo=o.hi):Calls Tryz.prog 245 #[rv r,rv o] w fun e w'=>e=.returned (rv (r.times o))∧Below w.heap.size w w':=by
 obtain⟨a,b⟩:=r
 obtain⟨c,d⟩:=o
 simp only at h1 h2
 subst h1 h2
 have e0:Rg.times ⟨a,a⟩ ⟨c,c⟩=only (wrap64 (a*c)):=by unfold Rg.times;rw [if_pos ⟨rfl,rfl⟩,zcz]
 rw [e0]
 have hcall:=fun W=>zhl (wrap64 (a*c)) W
 have T:=zg4 w (.cells #[.int .i64 a,.int .i64 a] 213) (.cells #[.int .i64 c,.int .i64 c] 213)
 go_enter Tryz.func245,Tryz.ntmps245
 go_wp2_with(go_at_call 226;(with_reducible refine(hcall _).mono ?_);rintro e w4 ⟨rfl,hb4⟩;obtain⟨d0,d1,g0,g1,hbw⟩:=T w4 hb4)
 exact zbD (r:=only (wrap64 (a*c))) Tryz.results245 rfl rfl (zau d0 d1).1 (zau d0 d1).2 ⟨rfl,zaz hbw (by omega)⟩
structure KnM(w:World)(b:Nat)(bv:Value)(k:Kn):Prop where
 cR:∀ r,r<8→w.cell? ⟨b,r*2,none⟩=some (.int .i64 (k.regs r).lo)∧w.cell? ⟨b,r*2+1,none⟩=some (.int .i64 (k.regs r).hi)
 cC:∀ c,c<16→w.cell? ⟨b,16+c*2,none⟩=some (.int .i64 (k.cells c).lo)∧w.cell? ⟨b,16+c*2+1,none⟩=some (.int .i64 (k.cells c).hi)
 cN:w.cell? ⟨b,48,none⟩=some (.int .i64 k.next)
 cB:w.cell? ⟨b,49,none⟩=some bv
 cS:w.cell? ⟨b,50,none⟩=some (.int .i64 k.steps)
 fz:∀ j,w.frozen? ⟨b,j,none⟩=false
theorem KnM.lt{w:World}{b:Nat}{bv:Value}{k:Kn}(h:KnM w b bv k):b<w.heap.size:=World.block_lt_of_cell? w _ h.cN
theorem KnM.block{w w':World}{b:Nat}{bv:Value}{k:Kn}(h:KnM w b bv k)(e:w'.heap[b]?=w.heap[b]?):KnM w' b bv k:=by
 have c:∀ j,w'.cell? ⟨b,j,none⟩=w.cell? ⟨b,j,none⟩:=fun j=>World.cell?_of_block (w:=w) (a:=⟨b,j,none⟩) e
 exact⟨fun r hr=>⟨(c _).trans (h.cR r hr).1,(c _).trans (h.cR r hr).2⟩,fun r hr=>⟨(c _).trans (h.cC r hr).1,(c _).trans (h.cC r hr).2⟩,(c _).trans h.cN,(c _).trans h.cB,(c _).trans h.cS,fun j=>(World.frozen?_of_block (w:=w) (a:=⟨b,j,none⟩) e).trans (h.fz j)⟩
theorem KnM.below{w w':World}{B b:Nat}{bv:Value}{k:Kn}(h:KnM w b bv k)(hb:Below B w w')(hB:b<B):KnM w' b bv k:=h.block (hb.block b hB)
theorem KnM.alloc{w:World}{b:Nat}{bv:Value}{k:Kn}(h:KnM w b bv k)(x:Obj):KnM (w.alloc x) b bv k:=h.below (box1 (a:=x)) h.lt
theorem KnM.set{w:World}{b:Nat}{bv bv2:Value}{k k2:Kn}(h:KnM w b bv k)(n:Nat)(v u:Value)(hu:w.cell? ⟨b,n,none⟩=some u)
  (hR:∀ r,r<8→(if r*2=n then v else .int .i64 (k.regs r).lo)=.int .i64 (k2.regs r).lo∧(if r*2+1=n then v else .int .i64 (k.regs r).hi)=.int .i64 (k2.regs r).hi)
  (hC:∀ c,c<16→(if 16+c*2=n then v else .int .i64 (k.cells c).lo)=.int .i64 (k2.cells c).lo∧(if 16+c*2+1=n then v else .int .i64 (k.cells c).hi)=.int .i64 (k2.cells c).hi)
  (hN:(if 48=n then v else .int .i64 k.next)=.int .i64 k2.next) (hB:(if 49=n then v else bv)=bv2) (hS:(if 50=n then v else .int .i64 k.steps)=.int .i64 k2.steps) :
  KnM (w.setCell ⟨b,n,none⟩ v) b bv2 k2:=by
 have e:∀ j x,w.cell? ⟨b,j,none⟩=some x→(w.setCell ⟨b,n,none⟩ v).cell? ⟨b,j,none⟩=some (if j=n then v else x):=fun j x hx=>by
  rw [zan w b n j v u hu]
  split
  ·rfl
  ·exact hx
 refine⟨fun r hr=>⟨?_,?_⟩,fun c hc=>⟨?_,?_⟩,?_,?_,?_,fun j=>zbI w _ _ j _ (h.fz j)⟩
 ·rw [e _ _ (h.cR r hr).1,(hR r hr).1]
 ·rw [e _ _ (h.cR r hr).2,(hR r hr).2]
 ·rw [e _ _ (h.cC c hc).1,(hC c hc).1]
 ·rw [e _ _ (h.cC c hc).2,(hC c hc).2]
 ·rw [e _ _ h.cN,hN]
 ·rw [e _ _ h.cB,hB]
 ·rw [e _ _ h.cS,hS]
theorem ztj{w:World}{b:Nat}{bv:Value}{k:Kn}(h:KnM w b bv k):Calls Tryz.prog 137 #[.pointer (some ⟨b,0,none⟩)] w fun e w'=>e=.returned (.int .i64 k.next)∧w'=w:=by
 have c:=h.cN
 go_enter Tryz.func137,Tryz.ntmps137
 go_wp2
 go_ret
 exact⟨rfl,rfl⟩
theorem zbW{w:World}{b:Nat}{bv:Value}{k:Kn}(h:KnM w b bv k):Calls Tryz.prog 134 #[.pointer (some ⟨b,0,none⟩)] w fun e w'=>e=.returned (.int .i64 k.steps)∧w'=w:=by
 have c:=h.cS
 go_enter Tryz.func134,Tryz.ntmps134
 go_wp2
 go_ret
 exact⟨rfl,rfl⟩
theorem zf4{w:World}{b cap:Nat}{ao:Option Addr}{k:Kn}(h:KnM w b (.slice ao k.behind.length cap) k)(hl:k.behind.length≤15):Calls Tryz.prog 136 #[.pointer (some ⟨b,0,none⟩)] w fun e w'=>e=.returned (.int .i64 ((k.behind.length:Int)+1))∧w'=w:=by
 have c:=h.cB
 go_enter Tryz.func136,Tryz.ntmps136
 go_wp2
 go_ret
 exact⟨rfl,rfl⟩
def zaZ(w:World)(b:Nat)(bv:Value)(k:Kn):Ending→World→Prop:=fun e w'=>∃ g,e=.returned (.slice (some ⟨g,0,none⟩) 1 1)∧w.heap.size≤g∧w'.cell? ⟨g,0,none⟩=some (.pointer (some ⟨b,0,none⟩))∧KnM w' b bv k∧w.grownBy w' (some b)
theorem zfY{w:World}{b:Nat}{bv:Value}{k:Kn}(h:KnM w b bv k)(z:Int)(h0:0≤k.steps)(h1:k.steps≤100000):Calls Tryz.prog 229 #[.pointer (some ⟨b,0,none⟩),.int .i64 z] w (zaZ w b bv (k.goTo z)):=by
 have c:=h.cS
 have n:=h.cN
 have f1:=h.fz 50
 have f2:=h.fz 48
 have K1:KnM (w.setCell ⟨b,50,none⟩ (.int .i64 (k.steps+1))) b bv { k with steps:=k.steps+1 }:=h.set 50 _ _ c (fun r hr=>⟨by rw [if_neg (by omega)],by rw [if_neg (by omega)]⟩) (fun r hr=>⟨by rw [if_neg (by omega)],by rw [if_neg (by omega)]⟩) (by rw [if_neg (by omega)]) (by rw [if_neg (by omega)]) (by rw [if_pos rfl])
 have K2:KnM ((w.setCell ⟨b,50,none⟩ (.int .i64 (k.steps+1))).setCell ⟨b,48,none⟩ (.int .i64 z)) b bv (k.goTo z):=K1.set 48 _ _ K1.cN (fun r hr=>⟨by rw [if_neg (by omega)];rfl,by rw [if_neg (by omega)];rfl⟩) (fun r hr=>⟨by rw [if_neg (by omega)];rfl,by rw [if_neg (by omega)];rfl⟩) (by rw [if_pos rfl];rfl) (by rw [if_neg (by omega)]) (by rw [if_neg (by omega)];rfl)
 have hlt:=h.lt
 go_enter Tryz.func229,Tryz.ntmps229
 go_wp2
 go_ret
 refine⟨w.heap.size,rfl,Nat.le_refl _,?_,K2.alloc _,?_⟩
 ·have e:((w.setCell ⟨b,50,none⟩ (.int .i64 (k.steps+1))).setCell ⟨b,48,none⟩ (.int .i64 z)).heap.size=w.heap.size:=by rw [World.size_setCell,World.size_setCell]
  rw [←e]
  exact World.cell?_alloc_new _ _ _ 0
 ·exact zag (zag (zac (Below.refl _ _)) (zac (Below.refl _ _))) (World.grownBy_alloc _ _ _)
theorem zlK(w:World)(cs:Array Value)(t:TypeId)(b c:Obj)(j:Nat):(((w.alloc (.cells cs t)).alloc b).alloc c).cell? ⟨w.heap.size,j,none⟩=cs[j]?:=by
 have e:=(box2 (w:=w.alloc (.cells cs t)) (a:=b) (b:=c)).block w.heap.size (by simp)
 exact(World.cell?_of_block (w:=w.alloc (.cells cs t)) (a:=⟨w.heap.size,j,none⟩) e).trans (World.cell?_alloc_new _ _ _ j)
theorem ztk(b:Nat)(l h:Int)(h0:0≤l)(h1:l≤15)(h2:l≤h)(h3:h≤16):∀ W,(Instr.sliceAt 215 (.pointer (some ⟨b,16,none⟩)) (some (.int .i64 l)) (some (.int .i64 h)) none).run Tryz.prog W=.ok (.slice (some ⟨b,16+l.toNat*2,none⟩) (h.toNat-l.toNat) (16-l.toNat)) W:=by
 intro W
 have e1:Tryz.prog.arrayLen 215=16:=by kernel_rfl
 have e2:Tryz.prog.elem 215=213:=by kernel_rfl
 have eu:Tryz.prog.underlying 215=some (.array (Tryz.prog.arrayLen 215) (Tryz.prog.elem 215)):=by rw [e1,e2];kernel_rfl
 have e3:(sizeOf (Tryz.prog.elem 215)).run Tryz.prog W=.ok 2 W:=by rw [e2];kernel_rfl
 rw [run_sliceAt_array_lh W 215 ⟨b,16,none⟩ eu .i64 .i64 l h h0 h2 (by rw [e1];exact h3),e3]
 show Result.ok (slicedAt ⟨b,16,none⟩ l.toNat h.toNat (Tryz.prog.arrayLen 215) 2) W=_
 unfold slicedAt
 rw [e1,if_neg (by omega)]
 simp [Addr.add]
theorem zej{w:World}{b:Nat}{bv:Value}{k:Kn}(h:KnM w b bv k)(r:Rg)(hr:r.Ok)(h0:0≤r.lo)(h1:r.hi≤15):Calls Tryz.prog 255 #[.pointer (some ⟨b,0,none⟩),rv r] w fun e w'=>e=.returned (.slice (some ⟨b,16+r.lo.toNat*2,none⟩) ((r.hi+1).toNat-r.lo.toNat) (16-r.lo.toNat))∧Below w.heap.size w w':=by
 unfold Rg.Ok i64 at hr
 have hw:r.within ⟨0,15⟩=true:=by unfold Rg.within;simp;omega
 have hlt:=h.lt
 have b1:r.lo≤r.hi+1:=by omega
 have b2:r.hi+1≤16:=by omega
 have b3:IntKind.i64.wrap (r.hi+1)=r.hi+1:=zc8 _ (by omega) (by omega)
 go_enter Tryz.func255,Tryz.ntmps255
 go_wp2
 have H1:(((w.alloc (.cells #[.int .i64 r.lo,.int .i64 r.hi] 213)).alloc (.cells #[.int .i64 r.lo,.int .i64 r.hi] 213)).alloc (.cells #[.int .i64 0,.int .i64 15] 213)).cell? ⟨w.heap.size,0,none⟩=some (.int .i64 r.lo)∧(((w.alloc (.cells #[.int .i64 r.lo,.int .i64 r.hi] 213)).alloc (.cells #[.int .i64 r.lo,.int .i64 r.hi] 213)).alloc (.cells #[.int .i64 0,.int .i64 15] 213)).cell? ⟨w.heap.size,1,none⟩=some (.int .i64 r.hi):=⟨zlK _ _ _ _ _ 0,zlK _ _ _ _ _ 1⟩
 have hs:=ztk b r.lo (r.hi+1) h0 (by omega) b1 b2
 go_region_held3 (fun W=>W.cell? ⟨w.heap.size,0,none⟩=some (.int .i64 r.lo)∧W.cell? ⟨w.heap.size,1,none⟩=some (.int .i64 r.hi))
  (first|exact H1|go_keep)
  (fail)
 all_goals go_wp2
 go_ret
 exact⟨rfl,zaK.drew⟩
structure LdM(w wr:World)(b F:Nat)(bv:Value)(k:Kn)(f:Rg):Prop where
 kn:KnM wr b bv k
 lo:wr.cell? ⟨F,0,none⟩=some (.int .i64 f.lo)
 hi:wr.cell? ⟨F,1,none⟩=some (.int .i64 f.hi)
 fF:∀ j,wr.frozen? ⟨F,j,none⟩=false
 r0:∃ x,wr.cell? ⟨w.heap.size+1,0,none⟩=some x
 r1:∃ x,wr.cell? ⟨w.heap.size+1,1,none⟩=some x
 rz:∀ j,wr.frozen? ⟨w.heap.size+1,j,none⟩=false
 low:Below w.heap.size w wr
 ltF:F<wr.heap.size
 ne1:b<F
 ne2:w.heap.size+1<F
theorem LdM.below{w wr wy:World}{b F:Nat}{bv:Value}{k:Kn}{f:Rg}(L:LdM w wr b F bv k f)(hb:Below wr.heap.size wr wy):LdM w wy b F bv k f:=by
 have c:∀ q j,q<wr.heap.size→wy.cell? ⟨q,j,none⟩=wr.cell? ⟨q,j,none⟩:=fun q j hq=>World.cell?_of_block (w:=wr) (a:=⟨q,j,none⟩) (hb.block q hq)
 have z:∀ q j,q<wr.heap.size→wy.frozen? ⟨q,j,none⟩=wr.frozen? ⟨q,j,none⟩:=fun q j hq=>World.frozen?_of_block (w:=wr) (a:=⟨q,j,none⟩) (hb.block q hq)
 have hF:=L.ltF
 have h2:=L.ne2
 have hs:=hb.size
 obtain⟨x0,e0⟩:=L.r0
 obtain⟨x1,e1⟩:=L.r1
 have hl:w.heap.size≤wr.heap.size:=L.low.size
 exact⟨L.kn.below hb L.kn.lt,(c _ _ hF).trans L.lo,(c _ _ hF).trans L.hi,fun j=>(z _ _ hF).trans (L.fF j),⟨x0,(c _ _ (by omega)).trans e0⟩,⟨x1,(c _ _ (by omega)).trans e1⟩,fun j=>(z _ _ (by omega)).trans (L.rz j),L.low.trans (hb.mono hl),by omega,L.ne1,h2⟩
theorem LdM.store{w wr:World}{b F:Nat}{bv:Value}{k:Kn}{f:Rg}(L:LdM w wr b F bv k f)(g:Rg):LdM w ((wr.setCell ⟨F,0,none⟩ (.int .i64 g.lo)).setCell ⟨F,1,none⟩ (.int .i64 g.hi)) b F bv k g:=by
 have hb:Below F wr ((wr.setCell ⟨F,0,none⟩ (.int .i64 g.lo)).setCell ⟨F,1,none⟩ (.int .i64 g.hi)):=zaz (Below.refl F wr) (Nat.le_refl _)
 have c:∀ q j,q<F→((wr.setCell ⟨F,0,none⟩ (.int .i64 g.lo)).setCell ⟨F,1,none⟩ (.int .i64 g.hi)).cell? ⟨q,j,none⟩=wr.cell? ⟨q,j,none⟩:=fun q j hq=>World.cell?_of_block (w:=wr) (a:=⟨q,j,none⟩) (hb.block q hq)
 have hF:=L.ltF
 have h2:=L.ne2
 obtain⟨x0,e0⟩:=L.r0
 obtain⟨x1,e1⟩:=L.r1
 exact⟨L.kn.below hb L.ne1,(zau L.lo L.hi).1,(zau L.lo L.hi).2,fun j=>zbI _ _ _ j _ (zbI _ _ _ j _ (L.fF j)),⟨x0,(c _ _ (by omega)).trans e0⟩,⟨x1,(c _ _ (by omega)).trans e1⟩,fun j=>(World.frozen?_of_block (w:=wr) (a:=⟨w.heap.size+1,j,none⟩) (hb.block _ (by omega))).trans (L.rz j),L.low.trans (hb.mono (by omega)),by rw [World.size_setCell,World.size_setCell];exact hF,L.ne1,h2⟩
theorem zqz{w:World}{b:Nat}{bv:Value}{k:Kn}(h:KnM w b bv k)(a n:Nat)(hn:a<15)(ha:a+n≤15):Calls Tryz.prog 254 #[.pointer (some ⟨b,0,none⟩),rv ⟨(a:Int),((a:Int)+(n:Int))⟩] w fun e w'=>e=.returned (rv (zct k.cells a n))∧Below w.heap.size w w':=by
 have hlt:=h.lt
 have hT:∀(W:World),KnM W b bv k→Calls Tryz.prog 255 #[.pointer (some ⟨b,0,none⟩),rv ⟨(a:Int),((a:Int)+(n:Int))⟩] W fun e w'=>e=.returned (.slice (some ⟨b,16+a*2,none⟩) (n+1) (16-a))∧Below W.heap.size W w':=fun W hW=>by
  have t:=zej hW ⟨(a:Int),((a:Int)+(n:Int))⟩ ⟨⟨by show _≤(a:Int);omega,by show(a:Int)≤_;omega⟩,⟨by show _≤((a:Int)+(n:Int));omega,by show((a:Int)+(n:Int))≤_;omega⟩,by show(a:Int)≤((a:Int)+(n:Int));omega⟩ (by show(0:Int)≤(a:Int);omega) (by show((a:Int)+(n:Int))≤15;omega)
  have e1:((a:Int)+(n:Int)+1).toNat=a+n+1:=by omega
  have e2:((a:Nat):Int).toNat=a:=by omega
  have e3:a+n+1-a=n+1:=by omega
  simp only [e1,e2,e3] at t
  exact t
 have m1:¬(16-a=1):=by omega
 go_enter Tryz.func254,Tryz.ntmps254
 go_wp2_with(go_at_call 255;(with_reducible refine(hT _ ((h.alloc _).alloc _)).mono ?_);rintro e wx ⟨rfl,hbx⟩;have hK:KnM wx b bv k:=((h.alloc _).alloc _).below hbx (by simp;omega);have c0:=(hK.cC a (by omega)).1;have c1:=(hK.cC a (by omega)).2)
 have L0:LdM w (wx.alloc (.cells #[.int .i64 (k.cells a).lo,.int .i64 (k.cells a).hi] 213)) b wx.heap.size bv k (k.cells a):=by
  have hs:=hbx.size
  have e2:((w.alloc (.cells #[.int .i64 (a:Int),.int .i64 ((a:Int)+(n:Int))] 213)).alloc (.cells #[.int .i64 0,.int .i64 0] 213)).heap.size=w.heap.size+1+1:=by simp
  rw [e2] at hs hbx
  have hb2:Below (w.heap.size+1+1) _ (wx.alloc (.cells #[.int .i64 (k.cells a).lo,.int .i64 (k.cells a).hi] 213)):=hbx.alloc hs _
  have cc:∀ j,(wx.alloc (.cells #[.int .i64 (k.cells a).lo,.int .i64 (k.cells a).hi] 213)).cell? ⟨w.heap.size+1,j,none⟩=(#[.int .i64 0,.int .i64 0]:Array Value)[j]?:=fun j=>by
   have e:=World.cell?_of_block (a:=⟨w.heap.size+1,j,none⟩) (hb2.block (w.heap.size+1) (by omega))
   rw [e]
   have:=World.cell?_alloc_new (w:=w.alloc (.cells #[.int .i64 (a:Int),.int .i64 ((a:Int)+(n:Int))] 213)) #[.int .i64 0,.int .i64 0] 213 j
   rw [World.size_alloc] at this
   exact this
  refine⟨hK.alloc _,World.cell?_alloc_new _ _ _ 0,World.cell?_alloc_new _ _ _ 1,fun j=>World.frozen?_alloc_at _ _ _ _ (by simp),⟨_,cc 0⟩,⟨_,cc 1⟩,fun j=>?_,box2.trans (hb2.mono (by omega)),by simp,by omega,by omega⟩
  have e:=World.frozen?_of_block (a:=⟨w.heap.size+1,j,none⟩) (hb2.block (w.heap.size+1) (by omega))
  rw [e]
  exact World.frozen?_alloc_at _ _ _ _ (by simp)
 clear hbx hK c0 c1 hT
 go_loopw [18] (fun ti wr=>∃ j:Nat,j≤n∧ti=.int .i64 (j:Int)∧LdM w wr b wx.heap.size bv k (zct k.cells a j)) (fun ti _=>n-(intOf ti).toNat)
 case atStart=>exact⟨0,by omega,rfl,L0⟩
 case round =>
  obtain⟨j,hj,rfl,L⟩:=hrel
  by_cases hjn:j<n
  ·have cl:=L.kn.cC (a+(j+1)) (by omega)
   rw [show 16+(a+(j+1))*2=16+a*2+2+j*2 by omega] at cl
   obtain⟨d0,d1⟩:=cl
   have hj0:(0:Int)≤(j:Int):=by omega
   have hj1:(j:Int)<(n:Int):=by omega
   have HO:Hid (zct k.cells a (j+1)=(zct k.cells a j).or (k.cells (a+(j+1)))):=rfl
   generalize k.cells (a+(j+1))=c at d0 d1 HO
   generalize zct k.cells a j=f at L HO
   have LA:=L.below (box1 (a:=.cells #[.int .i64 c.lo,.int .i64 c.hi] 213))
   have f0:=LA.lo
   have f1:=LA.hi
   have z0:=LA.fF 0
   have z1:=LA.fF 1
   go_wp2_with(go_at_call 156;(with_reducible refine(zoD f c _).mono ?_);rintro e wy ⟨rfl,hby⟩;have LB:=LA.below hby;have g0:=LB.lo;have g1:=LB.hi;have y0:=LB.fF 0;have y1:=LB.fF 1)
   exact⟨⟨j+1,by omega,by go_num,by rw [HO.out];exact LB.store _⟩,by simp [intOf];omega⟩
  ·obtain rfl:j=n:=by omega
   have f0:=L.lo
   have f1:=L.hi
   obtain⟨x0,s0⟩:=L.r0
   obtain⟨x1,s1⟩:=L.r1
   have y0:=L.rz 0
   have y1:=L.rz 1
   have hl:=L.low
   clear L L0
   go_wp2
   exact zbD (r:=zct k.cells a j) Tryz.results254 rfl rfl (zau s0 s1).1 (zau s0 s1).2 ⟨rfl,zaz hl (by omega)⟩
theorem KnM.putC{w:World}{b:Nat}{bv:Value}{k:Kn}(h:KnM w b bv k)(a:Nat)(ha:a<16)(v:Rg):KnM ((w.setCell ⟨b,16+a*2,none⟩ (.int .i64 v.lo)).setCell ⟨b,16+a*2+1,none⟩ (.int .i64 v.hi)) b bv { k with cells:=updR k.cells a v }:=by
 have K1:KnM (w.setCell ⟨b,16+a*2,none⟩ (.int .i64 v.lo)) b bv { k with cells:=updR k.cells a ⟨v.lo,(k.cells a).hi⟩ }:=h.set (16+a*2) _ _ (h.cC a ha).1 (fun r hr=>⟨by rw [if_neg (by omega)],by rw [if_neg (by omega)]⟩) (fun c hc=>⟨by
  by_cases e:c=a
  ·subst e;rw [if_pos rfl];show _=Value.int .i64 (updR k.cells c ⟨v.lo,(k.cells c).hi⟩ c).lo;rw [zd0]
  ·rw [if_neg (by omega)];show _=Value.int .i64 (updR k.cells a ⟨v.lo,(k.cells a).hi⟩ c).lo;unfold updR;rw [if_neg e],by
  rw [if_neg (by omega)]
  show _=Value.int .i64 (updR k.cells a ⟨v.lo,(k.cells a).hi⟩ c).hi
  unfold updR
  by_cases e:c=a
  ·subst e;rw [if_pos rfl]
  ·rw [if_neg e]⟩) (by rw [if_neg (by omega)]) (by rw [if_neg (by omega)]) (by rw [if_neg (by omega)])
 refine K1.set (16+a*2+1) _ _ (K1.cC a ha).2 (fun r hr=>⟨by rw [if_neg (by omega)],by rw [if_neg (by omega)]⟩) (fun c hc=>⟨?_,?_⟩) (by rw [if_neg (by omega)]) (by rw [if_neg (by omega)]) (by rw [if_neg (by omega)])
 ·rw [if_neg (by omega)]
  show Value.int .i64 (updR k.cells a ⟨v.lo,(k.cells a).hi⟩ c).lo=Value.int .i64 (updR k.cells a v c).lo
  unfold updR
  by_cases e:c=a
  ·rw [if_pos e,if_pos e]
  ·rw [if_neg e,if_neg e]
 ·show _=Value.int .i64 (updR k.cells a v c).hi
  by_cases e:c=a
  ·subst e;rw [if_pos rfl,zd0]
  ·rw [if_neg (by omega)]
   show Value.int .i64 (updR k.cells a ⟨v.lo,(k.cells a).hi⟩ c).hi=_
   unfold updR
   rw [if_neg e,if_neg e]
theorem zd7{w wx:World}{o:Obj}{cs:Array Value}{t:TypeId}(hbx:Below ((w.alloc o).alloc (.cells cs t)).heap.size ((w.alloc o).alloc (.cells cs t)) wx)(j:Nat):wx.cell? ⟨w.heap.size+1,j,none⟩=cs[j]?:=by
 have e:=World.cell?_of_block (a:=⟨w.heap.size+1,j,none⟩) (hbx.block (w.heap.size+1) (by simp))
 rw [e]
 have:=World.cell?_alloc_new (w:=w.alloc o) cs t j
 rw [World.size_alloc] at this
 exact this
def zlL(w:World)(b:Nat)(bv:Value)(k:Kn):Ending→World→Prop:=fun e w'=>e=.returned (.tuple #[])∧KnM w' b bv k∧w.grownBy w' (some b)
theorem zq0{w:World}{b:Nat}{bv:Value}{k:Kn}(h:KnM w b bv k)(a:Nat)(ha:a≤15)(v:Rg):Calls Tryz.prog 258 #[.pointer (some ⟨b,0,none⟩),rv ⟨(a:Int),(a:Int)⟩,rv v] w (zlL w b bv { k with cells:=updR k.cells a v }):=by
 have hlt:=h.lt
 have hT:∀(W:World),KnM W b bv k→Calls Tryz.prog 255 #[.pointer (some ⟨b,0,none⟩),rv ⟨(a:Int),(a:Int)⟩] W fun e w'=>e=.returned (.slice (some ⟨b,16+a*2,none⟩) 1 (16-a))∧Below W.heap.size W w':=fun W hW=>by
  have t:=zej hW ⟨(a:Int),(a:Int)⟩ ⟨⟨by show _≤(a:Int);omega,by show(a:Int)≤_;omega⟩,⟨by show _≤(a:Int);omega,by show(a:Int)≤_;omega⟩,by show(a:Int)≤(a:Int);omega⟩ (by show(0:Int)≤(a:Int);omega) (by show(a:Int)≤15;omega)
  have e1:((a:Int)+1).toNat=a+1:=by omega
  have e2:((a:Nat):Int).toNat=a:=by omega
  have e3:a+1-a=1:=by omega
  simp only [e1,e2,e3] at t
  exact t
 go_enter Tryz.func258,Tryz.ntmps258
 go_wp2_with(go_at_call 255;(with_reducible refine(hT _ ((h.alloc _).alloc _)).mono ?_);rintro e wx ⟨rfl,hbx⟩;have hK:KnM wx b bv k:=((h.alloc _).alloc _).below hbx (by simp;omega);have c0:=(hK.cC a (by omega)).1;have c1:=(hK.cC a (by omega)).2;have z0:=hK.fz (16+a*2);have z1:=hK.fz (16+a*2+1);have v0:wx.cell? ⟨w.heap.size+1,0,none⟩=some (.int .i64 v.lo):=zd7 hbx 0;have v1:wx.cell? ⟨w.heap.size+1,1,none⟩=some (.int .i64 v.hi):=zd7 hbx 1)
 have hl:Below w.heap.size w wx:=box2.trans (hbx.mono (by simp;omega))
 refine bodyPost_ret (results_none rfl _ _ _) rfl ?_
 exact⟨rfl,hK.putC a (by omega) v,zag (zac hl) (zac (Below.refl _ _))⟩
def zb6(c:Nat→Rg)(a j:Nat)(v:Rg):Nat→Rg:=fun i=>if a≤i∧i<a+j then(c i).or v else c i
theorem zlM(c:Nat→Rg)(a:Nat)(v:Rg):zb6 c a 0 v=c:=by
 funext i;unfold zb6;rw [if_neg (by omega)]
theorem zjz(c:Nat→Rg)(a j:Nat)(v:Rg):zb6 c a j v (a+j)=c (a+j):=by unfold zb6;rw [if_neg (by omega)]
theorem zlN(c:Nat→Rg)(a j:Nat)(v:Rg):updR (zb6 c a j v) (a+j) ((c (a+j)).or v)=zb6 c a (j+1) v:=by
 funext i
 unfold updR zb6
 by_cases e:i=a+j
 ·subst e;rw [if_pos rfl,if_pos (by omega)]
 ·rw [if_neg e]
  by_cases e2:a≤i∧i<a+j
  ·rw [if_pos e2,if_pos (by omega)]
  ·rw [if_neg e2,if_neg (by omega)]
theorem znp(c:Nat→Rg)(a n:Nat)(v:Rg)(hn:1≤n):zb6 c a (n+1) v=zaL c a (a+n) v:=by
 funext i
 have e0:zaL c a (a+n) v=fun j=>if a≤j∧j≤a+n then(c j).or v else c j:=by unfold zaL;rw [if_neg (by omega)]
 rw [e0]
 unfold zb6
 show _=if a≤i∧i≤a+n then(c i).or v else c i
 by_cases e:a≤i∧i<a+(n+1)
 ·rw [if_pos e,if_pos (by omega)]
 ·rw [if_neg e,if_neg (by omega)]
structure StM(w wr:World)(b:Nat)(bv:Value)(k:Kn)(v:Rg):Prop where
 kn:KnM wr b bv k
 lo:wr.cell? ⟨w.heap.size+1,0,none⟩=some (.int .i64 v.lo)
 hi:wr.cell? ⟨w.heap.size+1,1,none⟩=some (.int .i64 v.hi)
 low:w.grownBy wr (some b)
theorem StM.below{w wr wy:World}{b:Nat}{bv:Value}{k:Kn}{v:Rg}(L:StM w wr b bv k v)(hb:Below wr.heap.size wr wy):StM w wy b bv k v:=by
 have h1:w.heap.size+1<wr.heap.size:=World.block_lt_of_cell? wr _ L.lo
 have c:∀ q j,q<wr.heap.size→wy.cell? ⟨q,j,none⟩=wr.cell? ⟨q,j,none⟩:=fun q j hq=>World.cell?_of_block (w:=wr) (a:=⟨q,j,none⟩) (hb.block q hq)
 exact⟨L.kn.below hb L.kn.lt,(c _ _ h1).trans L.lo,(c _ _ h1).trans L.hi,zag L.low ⟨hb.os,hb.tape,hb.output,hb.size,fun q hq _=>hb.block q hq⟩⟩
theorem StM.put{w wr:World}{b:Nat}{bv:Value}{k:Kn}{v:Rg}(L:StM w wr b bv k v)(hb:b<w.heap.size)(a:Nat)(ha:a<16)(u:Rg):StM w ((wr.setCell ⟨b,16+a*2,none⟩ (.int .i64 u.lo)).setCell ⟨b,16+a*2+1,none⟩ (.int .i64 u.hi)) b bv { k with cells:=updR k.cells a u } v:=by
 have ne:∀ x j,(⟨w.heap.size+1,x,none⟩:Addr)≠⟨b,j,none⟩:=fun x j e=>by
  have:=congrArg Addr.block e
  have:w.heap.size+1=b:=this
  omega
 refine⟨L.kn.putC a ha u,?_,?_,zag L.low (zag (zac (Below.refl _ _)) (zac (Below.refl _ _)))⟩
 ·rw [World.cell?_setCell_other (h:=(ne _ _).symm),World.cell?_setCell_other (h:=(ne _ _).symm)];exact L.lo
 ·rw [World.cell?_setCell_other (h:=(ne _ _).symm),World.cell?_setCell_other (h:=(ne _ _).symm)];exact L.hi
end Go.Proofs.YtfpgjkbjbbgciaaGreatDoor
