import Derived.Test.YtfpgjkbjbbgciaaGreatDoorMe26
import Derived.Test.YtfpgjkbjbbgciaaGreatDoorMe27
set_option maxRecDepth 100000
set_option maxHeartbeats 8000000
namespace Go.Proofs.YtfpgjkbjbbgciaaGreatDoor
open Go.RowKit Sp
def zkM (r : Rg) : Nat → Int
 | 0 => r.lo
 | 1 => r.lo
 | _ => r.hi
def zkN (o : Rg) : Nat → Int
 | 0 => o.lo
 | 1 => o.hi
 | 2 => o.lo
 | _ => o.hi
structure TimesAt (w wr : World) (r o : Rg) (k : Nat) : Prop where
 cells : ∀ j,j < 4 → wr.cell? ⟨w.heap.size + 1 + 1 + 1,j,none⟩ = some (.int .i64 (if j < k then wrap64 (zkM r j * zkN o j) else 0))
 fz : ∀ j,wr.frozen? ⟨w.heap.size + 1 + 1 + 1,j,none⟩ = false
 res : ∀ j,j < 2 → wr.cell? ⟨w.heap.size + 1 + 1,j,none⟩ = some (.int .i64 0)
 rz : ∀ j,wr.frozen? ⟨w.heap.size + 1 + 1,j,none⟩ = false
 low : Below w.heap.size w wr
 size : w.heap.size + 1 + 1 + 1 < wr.heap.size
 no : ∀ j,j < k → zb1 (zkM r j) (zkN o j) = false
theorem TimesAt.alloc {w wr : World} {r o : Rg} {k : Nat} (h : TimesAt w wr r o k) (x : Obj) : TimesAt w (wr.alloc x) r o k:=by
 have hb : Below wr.heap.size wr (wr.alloc x):=box1
 have hs:=h.size
 have z : ∀ b j,b < wr.heap.size → (wr.alloc x).frozen? ⟨b,j,none⟩ = wr.frozen? ⟨b,j,none⟩:=fun b j hlt => World.frozen?_of_block (w:=wr) (a:=⟨b,j,none⟩) (hb.block b hlt)
 exact ⟨fun j hj => zap hb (h.cells j hj),fun j => (z _ j hs).trans (h.fz j),fun j hj => zap hb (h.res j hj),fun j => (z _ j (by omega)).trans (h.rz j),h.low.alloc h.low.size _,by simp; omega,h.no⟩
theorem TimesAt.put {w wr : World} {r o : Rg} {k : Nat} (h : TimesAt w wr r o k) (hk : k < 4) (hn : zb1 (zkM r k) (zkN o k) = false) : TimesAt w (wr.setCell ⟨w.heap.size + 1 + 1 + 1,k,none⟩ (.int .i64 (wrap64 (zkM r k * zkN o k)))) r o (k + 1):=by
 have e:=fun j => za1 wr (w.heap.size + 1 + 1 + 1) k j (.int .i64 (wrap64 (zkM r k * zkN o k))) _ (h.cells k hk)
 have bl : (wr.setCell ⟨w.heap.size + 1 + 1 + 1,k,none⟩ (.int .i64 (wrap64 (zkM r k * zkN o k)))).heap[w.heap.size + 1 + 1]? = wr.heap[w.heap.size + 1 + 1]?:=Below.heap_setCell _ _ _ _ (by show ¬ w.heap.size + 1 + 1 = w.heap.size + 1 + 1 + 1; omega)
 refine ⟨fun j hj => ?_,fun j => zcK wr _ _ j _ (h.fz j),fun j hj => (World.cell?_of_block (w:=wr) (a:=⟨w.heap.size + 1 + 1,j,none⟩) bl).trans (h.res j hj),fun j => (World.frozen?_of_block (w:=wr) (a:=⟨w.heap.size + 1 + 1,j,none⟩) bl).trans (h.rz j),h.low.setCell (p:=⟨w.heap.size + 1 + 1 + 1,k,none⟩) (by show w.heap.size ≤ w.heap.size + 1 + 1 + 1; omega) _,by simp [World.setCell]; exact h.size,fun j hj => ?_⟩
 ·rw [e j]
  by_cases hjk : j = k
  ·subst hjk; rw [if_pos rfl,if_pos (by omega)]
  ·rw [if_neg hjk,h.cells j hj]
   by_cases h1 : j < k
   ·rw [if_pos h1,if_pos (by omega)]
   ·rw [if_neg h1,if_neg (by omega)]
 ·by_cases hjk : j = k
  ·subst hjk; exact hn
  ·exact h.no j (by omega)
theorem zbR {r o : Rg} (h : ¬ (r.lo = r.hi ∧ o.lo = o.hi)) {k : Nat} (hk : k < 4) (hw : zb1 (zkM r k) (zkN o k) = true) : r.times o = anyR:=by
 unfold Rg.times
 rw [if_neg h,if_pos]
 match k,hk with
 | 0,_ => exact .inl hw
 | 1,_ => exact .inr (.inl hw)
 | 2,_ => exact .inr (.inr (.inl hw))
 | 3,_ => exact .inr (.inr (.inr hw))
theorem zhC {r o : Rg} (hr : r.Ok) (ho : o.Ok) (h : ¬ (r.lo = r.hi ∧ o.lo = o.hi)) (hn : ∀ j,j < 4 → zb1 (zkM r j) (zkN o j) = false) :
  r.times o = ⟨zeY [wrap64 (r.lo * o.lo),wrap64 (r.lo * o.hi),wrap64 (r.hi * o.lo),wrap64 (r.hi * o.hi)] 3,zeZ [wrap64 (r.lo * o.lo),wrap64 (r.lo * o.hi),wrap64 (r.hi * o.lo),wrap64 (r.hi * o.hi)] 3⟩:=by
 have h0 : zb1 r.lo o.lo = false:=hn 0 (by omega)
 have h1 : zb1 r.lo o.hi = false:=hn 1 (by omega)
 have h2 : zb1 r.hi o.lo = false:=hn 2 (by omega)
 have h3 : zb1 r.hi o.hi = false:=hn 3 (by omega)
 unfold Rg.times
 rw [if_neg h,if_neg (by rw [h0,h1,h2,h3]; simp)]
 rw [zcs,zcs,zcs,zcs,zfw (zcg hr.1 ho.1 h0),zfw (zcg hr.1 ho.2.1 h1),zfw (zcg hr.2.1 ho.1 h2),zfw (zcg hr.2.1 ho.2.1 h3)]
 rfl
theorem zr9 (r o : Rg) (w : World) (h1 : r.lo = r.hi) (h2 : o.lo = o.hi) : Calls Tryz.prog 245 #[rv r,rv o] w fun e w' => e = .returned (rv (r.times o)) ∧ Below w.heap.size w w':=by
 obtain ⟨a,b⟩:=r
 obtain ⟨c,d⟩:=o
 simp only at h1 h2
 subst h1 h2
 have e0 : Rg.times ⟨a,a⟩ ⟨c,c⟩ = only (wrap64 (a * c)):=by unfold Rg.times; rw [if_pos ⟨rfl,rfl⟩,zcs]
 rw [e0]
 have hcall:=fun W => zgH (wrap64 (a * c)) W
 have T:=zfX w (.cells #[.int .i64 a,.int .i64 a] 213) (.cells #[.int .i64 c,.int .i64 c] 213)
 go_enter Tryz.func245,Tryz.ntmps245
 go_wp2_with (go_at_call 226; (with_reducible refine (hcall _).mono ?_); rintro e w4 ⟨rfl,hb4⟩; obtain ⟨d0,d1,g0,g1,hbw⟩:=T w4 hb4)
 exact zb2 (r:=only (wrap64 (a * c))) Tryz.results245 rfl rfl (zar d0 d1).1 (zar d0 d1).2 ⟨rfl,zaw hbw (by omega)⟩
structure KnM (w : World) (b : Nat) (bv : Value) (k : Kn) : Prop where
 cR : ∀ r,r < 8 → w.cell? ⟨b,r * 2,none⟩ = some (.int .i64 (k.regs r).lo) ∧ w.cell? ⟨b,r * 2 + 1,none⟩ = some (.int .i64 (k.regs r).hi)
 cC : ∀ c,c < 16 → w.cell? ⟨b,16 + c * 2,none⟩ = some (.int .i64 (k.cells c).lo) ∧ w.cell? ⟨b,16 + c * 2 + 1,none⟩ = some (.int .i64 (k.cells c).hi)
 cN : w.cell? ⟨b,48,none⟩ = some (.int .i64 k.next)
 cB : w.cell? ⟨b,49,none⟩ = some bv
 cS : w.cell? ⟨b,50,none⟩ = some (.int .i64 k.steps)
 fz : ∀ j,w.frozen? ⟨b,j,none⟩ = false
theorem KnM.lt {w : World} {b : Nat} {bv : Value} {k : Kn} (h : KnM w b bv k) : b < w.heap.size:=World.block_lt_of_cell? w _ h.cN
theorem KnM.block {w w' : World} {b : Nat} {bv : Value} {k : Kn} (h : KnM w b bv k) (e : w'.heap[b]? = w.heap[b]?) : KnM w' b bv k:=by
 have c : ∀ j,w'.cell? ⟨b,j,none⟩ = w.cell? ⟨b,j,none⟩:=fun j => World.cell?_of_block (w:=w) (a:=⟨b,j,none⟩) e
 exact ⟨fun r hr => ⟨(c _).trans (h.cR r hr).1,(c _).trans (h.cR r hr).2⟩,fun r hr => ⟨(c _).trans (h.cC r hr).1,(c _).trans (h.cC r hr).2⟩,(c _).trans h.cN,(c _).trans h.cB,(c _).trans h.cS,fun j => (World.frozen?_of_block (w:=w) (a:=⟨b,j,none⟩) e).trans (h.fz j)⟩
theorem KnM.below {w w' : World} {B b : Nat} {bv : Value} {k : Kn} (h : KnM w b bv k) (hb : Below B w w') (hB : b < B) : KnM w' b bv k:=h.block (hb.block b hB)
theorem KnM.alloc {w : World} {b : Nat} {bv : Value} {k : Kn} (h : KnM w b bv k) (x : Obj) : KnM (w.alloc x) b bv k:=h.below (box1 (a:=x)) h.lt
theorem KnM.set {w : World} {b : Nat} {bv bv2 : Value} {k k2 : Kn} (h : KnM w b bv k) (n : Nat) (v u : Value) (hu : w.cell? ⟨b,n,none⟩ = some u)
  (hR : ∀ r,r < 8 → (if r * 2 = n then v else .int .i64 (k.regs r).lo) = .int .i64 (k2.regs r).lo ∧ (if r * 2 + 1 = n then v else .int .i64 (k.regs r).hi) = .int .i64 (k2.regs r).hi)
  (hC : ∀ c,c < 16 → (if 16 + c * 2 = n then v else .int .i64 (k.cells c).lo) = .int .i64 (k2.cells c).lo ∧ (if 16 + c * 2 + 1 = n then v else .int .i64 (k.cells c).hi) = .int .i64 (k2.cells c).hi)
  (hN : (if 48 = n then v else .int .i64 k.next) = .int .i64 k2.next) (hB : (if 49 = n then v else bv) = bv2) (hS : (if 50 = n then v else .int .i64 k.steps) = .int .i64 k2.steps) :
  KnM (w.setCell ⟨b,n,none⟩ v) b bv2 k2:=by
 have e : ∀ j x,w.cell? ⟨b,j,none⟩ = some x → (w.setCell ⟨b,n,none⟩ v).cell? ⟨b,j,none⟩ = some (if j = n then v else x):=fun j x hx => by
  rw [za1 w b n j v u hu]
  split
  ·rfl
  ·exact hx
 refine ⟨fun r hr => ⟨?_,?_⟩,fun c hc => ⟨?_,?_⟩,?_,?_,?_,fun j => zcK w _ _ j _ (h.fz j)⟩
 ·rw [e _ _ (h.cR r hr).1,(hR r hr).1]
 ·rw [e _ _ (h.cR r hr).2,(hR r hr).2]
 ·rw [e _ _ (h.cC c hc).1,(hC c hc).1]
 ·rw [e _ _ (h.cC c hc).2,(hC c hc).2]
 ·rw [e _ _ h.cN,hN]
 ·rw [e _ _ h.cB,hB]
 ·rw [e _ _ h.cS,hS]
theorem zrB {w : World} {b : Nat} {bv : Value} {k : Kn} (h : KnM w b bv k) : Calls Tryz.prog 137 #[.pointer (some ⟨b,0,none⟩)] w fun e w' => e = .returned (.int .i64 k.next) ∧ w' = w:=by
 have c:=h.cN
 go_enter Tryz.func137,Tryz.ntmps137
 go_wp2
 go_ret
 exact ⟨rfl,rfl⟩
theorem zbI {w : World} {b : Nat} {bv : Value} {k : Kn} (h : KnM w b bv k) : Calls Tryz.prog 134 #[.pointer (some ⟨b,0,none⟩)] w fun e w' => e = .returned (.int .i64 k.steps) ∧ w' = w:=by
 have c:=h.cS
 go_enter Tryz.func134,Tryz.ntmps134
 go_wp2
 go_ret
 exact ⟨rfl,rfl⟩
theorem zfa {w : World} {b cap : Nat} {ao : Option Addr} {k : Kn} (h : KnM w b (.slice ao k.behind.length cap) k) (hl : k.behind.length ≤ 15) : Calls Tryz.prog 136 #[.pointer (some ⟨b,0,none⟩)] w fun e w' => e = .returned (.int .i64 ((k.behind.length : Int) + 1)) ∧ w' = w:=by
 have c:=h.cB
 go_enter Tryz.func136,Tryz.ntmps136
 go_wp2
 go_ret
 exact ⟨rfl,rfl⟩
def zaP (w : World) (b : Nat) (bv : Value) (k : Kn) : Ending → World → Prop:=fun e w' => ∃ g,e = .returned (.slice (some ⟨g,0,none⟩) 1 1) ∧ w.heap.size ≤ g ∧ w'.cell? ⟨g,0,none⟩ = some (.pointer (some ⟨b,0,none⟩)) ∧ KnM w' b bv k ∧ w.grownBy w' (some b)
theorem zfy {w : World} {b : Nat} {bv : Value} {k : Kn} (h : KnM w b bv k) (z : Int) (h0 : 0 ≤ k.steps) (h1 : k.steps ≤ 100000) : Calls Tryz.prog 229 #[.pointer (some ⟨b,0,none⟩),.int .i64 z] w (zaP w b bv (k.goTo z)):=by
 have c:=h.cS
 have n:=h.cN
 have f1:=h.fz 50
 have f2:=h.fz 48
 have K1 : KnM (w.setCell ⟨b,50,none⟩ (.int .i64 (k.steps + 1))) b bv { k with steps:=k.steps + 1 }:=h.set 50 _ _ c (fun r hr => ⟨by rw [if_neg (by omega)],by rw [if_neg (by omega)]⟩) (fun r hr => ⟨by rw [if_neg (by omega)],by rw [if_neg (by omega)]⟩) (by rw [if_neg (by omega)]) (by rw [if_neg (by omega)]) (by rw [if_pos rfl])
 have K2 : KnM ((w.setCell ⟨b,50,none⟩ (.int .i64 (k.steps + 1))).setCell ⟨b,48,none⟩ (.int .i64 z)) b bv (k.goTo z):=K1.set 48 _ _ K1.cN (fun r hr => ⟨by rw [if_neg (by omega)]; rfl,by rw [if_neg (by omega)]; rfl⟩) (fun r hr => ⟨by rw [if_neg (by omega)]; rfl,by rw [if_neg (by omega)]; rfl⟩) (by rw [if_pos rfl]; rfl) (by rw [if_neg (by omega)]) (by rw [if_neg (by omega)]; rfl)
 have hlt:=h.lt
 go_enter Tryz.func229,Tryz.ntmps229
 go_wp2
 go_ret
 refine ⟨w.heap.size,rfl,Nat.le_refl _,?_,K2.alloc _,?_⟩
 ·have e : ((w.setCell ⟨b,50,none⟩ (.int .i64 (k.steps + 1))).setCell ⟨b,48,none⟩ (.int .i64 z)).heap.size = w.heap.size:=by rw [World.size_setCell,World.size_setCell]
  rw [← e]
  exact World.cell?_alloc_new _ _ _ 0
 ·exact zad (zad (zai (Below.refl _ _)) (zai (Below.refl _ _))) (World.grownBy_alloc _ _ _)
theorem zkO (w : World) (cs : Array Value) (t : TypeId) (b c : Obj) (j : Nat) : (((w.alloc (.cells cs t)).alloc b).alloc c).cell? ⟨w.heap.size,j,none⟩ = cs[j]?:=by
 have e:=(box2 (w:=w.alloc (.cells cs t)) (a:=b) (b:=c)).block w.heap.size (by simp)
 exact (World.cell?_of_block (w:=w.alloc (.cells cs t)) (a:=⟨w.heap.size,j,none⟩) e).trans (World.cell?_alloc_new _ _ _ j)
theorem zrD (b : Nat) (l h : Int) (h0 : 0 ≤ l) (h1 : l ≤ 15) (h2 : l ≤ h) (h3 : h ≤ 16) : ∀ W,(Instr.sliceAt 215 (.pointer (some ⟨b,16,none⟩)) (some (.int .i64 l)) (some (.int .i64 h)) none).run Tryz.prog W = .ok (.slice (some ⟨b,16 + l.toNat * 2,none⟩) (h.toNat - l.toNat) (16 - l.toNat)) W:=by
 intro W
 have e1 : Tryz.prog.arrayLen 215 = 16:=by kernel_rfl
 have e2 : Tryz.prog.elem 215 = 213:=by kernel_rfl
 have eu : Tryz.prog.underlying 215 = some (.array (Tryz.prog.arrayLen 215) (Tryz.prog.elem 215)):=by rw [e1,e2]; kernel_rfl
 have e3 : (sizeOf (Tryz.prog.elem 215)).run Tryz.prog W = .ok 2 W:=by rw [e2]; kernel_rfl
 rw [run_sliceAt_array_lh W 215 ⟨b,16,none⟩ eu .i64 .i64 l h h0 h2 (by rw [e1]; exact h3),e3]
 show Result.ok (slicedAt ⟨b,16,none⟩ l.toNat h.toNat (Tryz.prog.arrayLen 215) 2) W = _
 unfold slicedAt
 rw [e1,if_neg (by omega)]
 simp [Addr.add]
theorem zdD {w : World} {b : Nat} {bv : Value} {k : Kn} (h : KnM w b bv k) (r : Rg) (hr : r.Ok) (h0 : 0 ≤ r.lo) (h1 : r.hi ≤ 15) : Calls Tryz.prog 255 #[.pointer (some ⟨b,0,none⟩),rv r] w fun e w' => e = .returned (.slice (some ⟨b,16 + r.lo.toNat * 2,none⟩) ((r.hi + 1).toNat - r.lo.toNat) (16 - r.lo.toNat)) ∧ Below w.heap.size w w':=by
 unfold Rg.Ok i64 at hr
 have hw : r.within ⟨0,15⟩ = true:=by unfold Rg.within; simp; omega
 have hlt:=h.lt
 have b1 : r.lo ≤ r.hi + 1:=by omega
 have b2 : r.hi + 1 ≤ 16:=by omega
 have b3 : IntKind.i64.wrap (r.hi + 1) = r.hi + 1:=zdt _ (by omega) (by omega)
 go_enter Tryz.func255,Tryz.ntmps255
 go_wp2
 have H1 : (((w.alloc (.cells #[.int .i64 r.lo,.int .i64 r.hi] 213)).alloc (.cells #[.int .i64 r.lo,.int .i64 r.hi] 213)).alloc (.cells #[.int .i64 0,.int .i64 15] 213)).cell? ⟨w.heap.size,0,none⟩ = some (.int .i64 r.lo) ∧ (((w.alloc (.cells #[.int .i64 r.lo,.int .i64 r.hi] 213)).alloc (.cells #[.int .i64 r.lo,.int .i64 r.hi] 213)).alloc (.cells #[.int .i64 0,.int .i64 15] 213)).cell? ⟨w.heap.size,1,none⟩ = some (.int .i64 r.hi):=⟨zkO _ _ _ _ _ 0,zkO _ _ _ _ _ 1⟩
 have hs:=zrD b r.lo (r.hi + 1) h0 (by omega) b1 b2
 go_region_held3 (fun W => W.cell? ⟨w.heap.size,0,none⟩ = some (.int .i64 r.lo) ∧ W.cell? ⟨w.heap.size,1,none⟩ = some (.int .i64 r.hi))
  (first | exact H1 | go_keep)
  (fail)
 all_goals go_wp2
 go_ret
 exact ⟨rfl,zaB.drew⟩
end Go.Proofs.YtfpgjkbjbbgciaaGreatDoor
