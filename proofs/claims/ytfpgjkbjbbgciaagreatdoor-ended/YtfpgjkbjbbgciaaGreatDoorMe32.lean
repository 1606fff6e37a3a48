import Derived.Test.YtfpgjkbjbbgciaaGreatDoorMe28
import Derived.Test.YtfpgjkbjbbgciaaGreatDoorMe29
import Derived.Deep.RegionWith
set_option maxRecDepth 100000
set_option maxHeartbeats 8000000
namespace Go.Proofs.YtfpgjkbjbbgciaaGreatDoor
open Go.RowKit Sp
structure LdM (w wr : World) (b F : Nat) (bv : Value) (k : Kn) (f : Rg) : Prop where
 kn : KnM wr b bv k
 lo : wr.cell? ⟨F,0,none⟩ = some (.int .i64 f.lo)
 hi : wr.cell? ⟨F,1,none⟩ = some (.int .i64 f.hi)
 fF : ∀ j,wr.frozen? ⟨F,j,none⟩ = false
 r0 : ∃ x,wr.cell? ⟨w.heap.size + 1,0,none⟩ = some x
 r1 : ∃ x,wr.cell? ⟨w.heap.size + 1,1,none⟩ = some x
 rz : ∀ j,wr.frozen? ⟨w.heap.size + 1,j,none⟩ = false
 low : Below w.heap.size w wr
 ltF : F < wr.heap.size
 ne1 : b < F
 ne2 : w.heap.size + 1 < F
theorem LdM.below {w wr wy : World} {b F : Nat} {bv : Value} {k : Kn} {f : Rg} (L : LdM w wr b F bv k f) (hb : Below wr.heap.size wr wy) : LdM w wy b F bv k f:=by
 have c : ∀ q j,q < wr.heap.size → wy.cell? ⟨q,j,none⟩ = wr.cell? ⟨q,j,none⟩:=fun q j hq => World.cell?_of_block (w:=wr) (a:=⟨q,j,none⟩) (hb.block q hq)
 have z : ∀ q j,q < wr.heap.size → wy.frozen? ⟨q,j,none⟩ = wr.frozen? ⟨q,j,none⟩:=fun q j hq => World.frozen?_of_block (w:=wr) (a:=⟨q,j,none⟩) (hb.block q hq)
 have hF:=L.ltF
 have h2:=L.ne2
 have hs:=hb.size
 obtain ⟨x0,e0⟩:=L.r0
 obtain ⟨x1,e1⟩:=L.r1
 have hl : w.heap.size ≤ wr.heap.size:=L.low.size
 exact ⟨L.kn.below hb L.kn.lt,(c _ _ hF).trans L.lo,(c _ _ hF).trans L.hi,fun j => (z _ _ hF).trans (L.fF j),⟨x0,(c _ _ (by omega)).trans e0⟩,⟨x1,(c _ _ (by omega)).trans e1⟩,fun j => (z _ _ (by omega)).trans (L.rz j),L.low.trans (hb.mono hl),by omega,L.ne1,h2⟩
theorem LdM.store {w wr : World} {b F : Nat} {bv : Value} {k : Kn} {f : Rg} (L : LdM w wr b F bv k f) (g : Rg) : LdM w ((wr.setCell ⟨F,0,none⟩ (.int .i64 g.lo)).setCell ⟨F,1,none⟩ (.int .i64 g.hi)) b F bv k g:=by
 have hb : Below F wr ((wr.setCell ⟨F,0,none⟩ (.int .i64 g.lo)).setCell ⟨F,1,none⟩ (.int .i64 g.hi)):=zaw (Below.refl F wr) (Nat.le_refl _)
 have c : ∀ q j,q < F → ((wr.setCell ⟨F,0,none⟩ (.int .i64 g.lo)).setCell ⟨F,1,none⟩ (.int .i64 g.hi)).cell? ⟨q,j,none⟩ = wr.cell? ⟨q,j,none⟩:=fun q j hq => World.cell?_of_block (w:=wr) (a:=⟨q,j,none⟩) (hb.block q hq)
 have hF:=L.ltF
 have h2:=L.ne2
 obtain ⟨x0,e0⟩:=L.r0
 obtain ⟨x1,e1⟩:=L.r1
 exact ⟨L.kn.below hb L.ne1,(zar L.lo L.hi).1,(zar L.lo L.hi).2,fun j => zcK _ _ _ j _ (zcK _ _ _ j _ (L.fF j)),⟨x0,(c _ _ (by omega)).trans e0⟩,⟨x1,(c _ _ (by omega)).trans e1⟩,fun j => (World.frozen?_of_block (w:=wr) (a:=⟨w.heap.size + 1,j,none⟩) (hb.block _ (by omega))).trans (L.rz j),L.low.trans (hb.mono (by omega)),by rw [World.size_setCell,World.size_setCell]; exact hF,L.ne1,h2⟩
theorem zpi {w : World} {b : Nat} {bv : Value} {k : Kn} (h : KnM w b bv k) (a n : Nat) (hn : a < 15) (ha : a + n ≤ 15) : Calls Tryz.prog 254 #[.pointer (some ⟨b,0,none⟩),rv ⟨(a : Int),((a : Int) + (n : Int))⟩] w fun e w' => e = .returned (rv (zbX k.cells a n)) ∧ Below w.heap.size w w':=by
 have hlt:=h.lt
 have hT : ∀ (W : World),KnM W b bv k → Calls Tryz.prog 255 #[.pointer (some ⟨b,0,none⟩),rv ⟨(a : Int),((a : Int) + (n : Int))⟩] W fun e w' => e = .returned (.slice (some ⟨b,16 + a * 2,none⟩) (n + 1) (16 - a)) ∧ Below W.heap.size W w':=fun W hW => by
  have t:=zdD hW ⟨(a : Int),((a : Int) + (n : Int))⟩ ⟨⟨by show _ ≤ (a : Int); omega,by show (a : Int) ≤ _; omega⟩,⟨by show _ ≤ ((a : Int) + (n : Int)); omega,by show ((a : Int) + (n : Int)) ≤ _; omega⟩,by show (a : Int) ≤ ((a : Int) + (n : Int)); omega⟩ (by show (0 : Int) ≤ (a : Int); omega) (by show ((a : Int) + (n : Int)) ≤ 15; omega)
  have e1 : ((a : Int) + (n : Int) + 1).toNat = a + n + 1:=by omega
  have e2 : ((a : Nat) : Int).toNat = a:=by omega
  have e3 : a + n + 1 - a = n + 1:=by omega
  simp only [e1,e2,e3] at t
  exact t
 have m1 : ¬ (16 - a = 1):=by omega
 go_enter Tryz.func254,Tryz.ntmps254
 go_wp2_with (go_at_call 255; (with_reducible refine (hT _ ((h.alloc _).alloc _)).mono ?_); rintro e wx ⟨rfl,hbx⟩; have hK : KnM wx b bv k:=((h.alloc _).alloc _).below hbx (by simp; omega); have c0:=(hK.cC a (by omega)).1; have c1:=(hK.cC a (by omega)).2)
 have L0 : LdM w (wx.alloc (.cells #[.int .i64 (k.cells a).lo,.int .i64 (k.cells a).hi] 213)) b wx.heap.size bv k (k.cells a):=by
  have hs:=hbx.size
  have e2 : ((w.alloc (.cells #[.int .i64 (a : Int),.int .i64 ((a : Int) + (n : Int))] 213)).alloc (.cells #[.int .i64 0,.int .i64 0] 213)).heap.size = w.heap.size + 1 + 1:=by simp
  rw [e2] at hs hbx
  have hb2 : Below (w.heap.size + 1 + 1) _ (wx.alloc (.cells #[.int .i64 (k.cells a).lo,.int .i64 (k.cells a).hi] 213)):=hbx.alloc hs _
  have cc : ∀ j,(wx.alloc (.cells #[.int .i64 (k.cells a).lo,.int .i64 (k.cells a).hi] 213)).cell? ⟨w.heap.size + 1,j,none⟩ = (#[.int .i64 0,.int .i64 0] : Array Value)[j]?:=fun j => by
   have e:=World.cell?_of_block (a:=⟨w.heap.size + 1,j,none⟩) (hb2.block (w.heap.size + 1) (by omega))
   rw [e]
   have:=World.cell?_alloc_new (w:=w.alloc (.cells #[.int .i64 (a : Int),.int .i64 ((a : Int) + (n : Int))] 213)) #[.int .i64 0,.int .i64 0] 213 j
   rw [World.size_alloc] at this
   exact this
  refine ⟨hK.alloc _,World.cell?_alloc_new _ _ _ 0,World.cell?_alloc_new _ _ _ 1,fun j => World.frozen?_alloc_at _ _ _ _ (by simp),⟨_,cc 0⟩,⟨_,cc 1⟩,fun j => ?_,box2.trans (hb2.mono (by omega)),by simp,by omega,by omega⟩
  have e:=World.frozen?_of_block (a:=⟨w.heap.size + 1,j,none⟩) (hb2.block (w.heap.size + 1) (by omega))
  rw [e]
  exact World.frozen?_alloc_at _ _ _ _ (by simp)
 clear hbx hK c0 c1 hT
 go_loopw [18] (fun ti wr => ∃ j : Nat,j ≤ n ∧ ti = .int .i64 (j : Int) ∧ LdM w wr b wx.heap.size bv k (zbX k.cells a j)) (fun ti _ => n - (intOf ti).toNat)
 case atStart => exact ⟨0,by omega,rfl,L0⟩
 case round =>
  obtain ⟨j,hj,rfl,L⟩:=hrel
  by_cases hjn : j < n
  ·have cl:=L.kn.cC (a + (j + 1)) (by omega)
   rw [show 16 + (a + (j + 1)) * 2 = 16 + a * 2 + 2 + j * 2 by omega] at cl
   obtain ⟨d0,d1⟩:=cl
   have hj0 : (0 : Int) ≤ (j : Int):=by omega
   have hj1 : (j : Int) < (n : Int):=by omega
   have HO : Hid (zbX k.cells a (j + 1) = (zbX k.cells a j).or (k.cells (a + (j + 1)))):=rfl
   generalize k.cells (a + (j + 1)) = c at d0 d1 HO
   generalize zbX k.cells a j = f at L HO
   have LA:=L.below (box1 (a:=.cells #[.int .i64 c.lo,.int .i64 c.hi] 213))
   have f0:=LA.lo
   have f1:=LA.hi
   have z0:=LA.fF 0
   have z1:=LA.fF 1
   go_wp2_with (go_at_call 156; (with_reducible refine (znD f c _).mono ?_); rintro e wy ⟨rfl,hby⟩; have LB:=LA.below hby; have g0:=LB.lo; have g1:=LB.hi; have y0:=LB.fF 0; have y1:=LB.fF 1)
   exact ⟨⟨j + 1,by omega,by go_num,by rw [HO.out]; exact LB.store _⟩,by simp [intOf]; omega⟩
  ·obtain rfl : j = n:=by omega
   have f0:=L.lo
   have f1:=L.hi
   obtain ⟨x0,s0⟩:=L.r0
   obtain ⟨x1,s1⟩:=L.r1
   have y0:=L.rz 0
   have y1:=L.rz 1
   have hl:=L.low
   clear L L0
   go_wp2
   exact zb2 (r:=zbX k.cells a j) Tryz.results254 rfl rfl (zar s0 s1).1 (zar s0 s1).2 ⟨rfl,zaw hl (by omega)⟩
theorem KnM.putC {w : World} {b : Nat} {bv : Value} {k : Kn} (h : KnM w b bv k) (a : Nat) (ha : a < 16) (v : Rg) : KnM ((w.setCell ⟨b,16 + a * 2,none⟩ (.int .i64 v.lo)).setCell ⟨b,16 + a * 2 + 1,none⟩ (.int .i64 v.hi)) b bv { k with cells:=updR k.cells a v }:=by
 have K1 : KnM (w.setCell ⟨b,16 + a * 2,none⟩ (.int .i64 v.lo)) b bv { k with cells:=updR k.cells a ⟨v.lo,(k.cells a).hi⟩ }:=h.set (16 + a * 2) _ _ (h.cC a ha).1 (fun r hr => ⟨by rw [if_neg (by omega)],by rw [if_neg (by omega)]⟩) (fun c hc => ⟨by
  by_cases e : c = a
  ·subst e; rw [if_pos rfl]; show _ = Value.int .i64 (updR k.cells c ⟨v.lo,(k.cells c).hi⟩ c).lo; rw [zcW]
  ·rw [if_neg (by omega)]; show _ = Value.int .i64 (updR k.cells a ⟨v.lo,(k.cells a).hi⟩ c).lo; unfold updR; rw [if_neg e],by
  rw [if_neg (by omega)]
  show _ = Value.int .i64 (updR k.cells a ⟨v.lo,(k.cells a).hi⟩ c).hi
  unfold updR
  by_cases e : c = a
  ·subst e; rw [if_pos rfl]
  ·rw [if_neg e]⟩) (by rw [if_neg (by omega)]) (by rw [if_neg (by omega)]) (by rw [if_neg (by omega)])
 refine K1.set (16 + a * 2 + 1) _ _ (K1.cC a ha).2 (fun r hr => ⟨by rw [if_neg (by omega)],by rw [if_neg (by omega)]⟩) (fun c hc => ⟨?_,?_⟩) (by rw [if_neg (by omega)]) (by rw [if_neg (by omega)]) (by rw [if_neg (by omega)])
 ·rw [if_neg (by omega)]
  show Value.int .i64 (updR k.cells a ⟨v.lo,(k.cells a).hi⟩ c).lo = Value.int .i64 (updR k.cells a v c).lo
  unfold updR
  by_cases e : c = a
  ·rw [if_pos e,if_pos e]
  ·rw [if_neg e,if_neg e]
 ·show _ = Value.int .i64 (updR k.cells a v c).hi
  by_cases e : c = a
  ·subst e; rw [if_pos rfl,zcW]
  ·rw [if_neg (by omega)]
   show Value.int .i64 (updR k.cells a ⟨v.lo,(k.cells a).hi⟩ c).hi = _
   unfold updR
   rw [if_neg e,if_neg e]
theorem zdd {w wx : World} {o : Obj} {cs : Array Value} {t : TypeId} (hbx : Below ((w.alloc o).alloc (.cells cs t)).heap.size ((w.alloc o).alloc (.cells cs t)) wx) (j : Nat) : wx.cell? ⟨w.heap.size + 1,j,none⟩ = cs[j]?:=by
 have e:=World.cell?_of_block (a:=⟨w.heap.size + 1,j,none⟩) (hbx.block (w.heap.size + 1) (by simp))
 rw [e]
 have:=World.cell?_alloc_new (w:=w.alloc o) cs t j
 rw [World.size_alloc] at this
 exact this
def zkQ (w : World) (b : Nat) (bv : Value) (k : Kn) : Ending → World → Prop:=fun e w' => e = .returned (.tuple #[]) ∧ KnM w' b bv k ∧ w.grownBy w' (some b)
theorem zpk {w : World} {b : Nat} {bv : Value} {k : Kn} (h : KnM w b bv k) (a : Nat) (ha : a ≤ 15) (v : Rg) : Calls Tryz.prog 258 #[.pointer (some ⟨b,0,none⟩),rv ⟨(a : Int),(a : Int)⟩,rv v] w (zkQ w b bv { k with cells:=updR k.cells a v }):=by
 have hlt:=h.lt
 have hT : ∀ (W : World),KnM W b bv k → Calls Tryz.prog 255 #[.pointer (some ⟨b,0,none⟩),rv ⟨(a : Int),(a : Int)⟩] W fun e w' => e = .returned (.slice (some ⟨b,16 + a * 2,none⟩) 1 (16 - a)) ∧ Below W.heap.size W w':=fun W hW => by
  have t:=zdD hW ⟨(a : Int),(a : Int)⟩ ⟨⟨by show _ ≤ (a : Int); omega,by show (a : Int) ≤ _; omega⟩,⟨by show _ ≤ (a : Int); omega,by show (a : Int) ≤ _; omega⟩,by show (a : Int) ≤ (a : Int); omega⟩ (by show (0 : Int) ≤ (a : Int); omega) (by show (a : Int) ≤ 15; omega)
  have e1 : ((a : Int) + 1).toNat = a + 1:=by omega
  have e2 : ((a : Nat) : Int).toNat = a:=by omega
  have e3 : a + 1 - a = 1:=by omega
  simp only [e1,e2,e3] at t
  exact t
 go_enter Tryz.func258,Tryz.ntmps258
 go_wp2_with (go_at_call 255; (with_reducible refine (hT _ ((h.alloc _).alloc _)).mono ?_); rintro e wx ⟨rfl,hbx⟩; have hK : KnM wx b bv k:=((h.alloc _).alloc _).below hbx (by simp; omega); have c0:=(hK.cC a (by omega)).1; have c1:=(hK.cC a (by omega)).2; have z0:=hK.fz (16 + a * 2); have z1:=hK.fz (16 + a * 2 + 1); have v0 : wx.cell? ⟨w.heap.size + 1,0,none⟩ = some (.int .i64 v.lo):=zdd hbx 0; have v1 : wx.cell? ⟨w.heap.size + 1,1,none⟩ = some (.int .i64 v.hi):=zdd hbx 1)
 have hl : Below w.heap.size w wx:=box2.trans (hbx.mono (by simp; omega))
 refine bodyPost_ret (results_none rfl _ _ _) rfl ?_
 exact ⟨rfl,hK.putC a (by omega) v,zad (zai hl) (zai (Below.refl _ _))⟩
def zbt (c : Nat → Rg) (a j : Nat) (v : Rg) : Nat → Rg:=fun i => if a ≤ i ∧ i < a + j then (c i).or v else c i
theorem zkR (c : Nat → Rg) (a : Nat) (v : Rg) : zbt c a 0 v = c:=by
 funext i; unfold zbt; rw [if_neg (by omega)]
theorem ziS (c : Nat → Rg) (a j : Nat) (v : Rg) : zbt c a j v (a + j) = c (a + j):=by unfold zbt; rw [if_neg (by omega)]
theorem zkS (c : Nat → Rg) (a j : Nat) (v : Rg) : updR (zbt c a j v) (a + j) ((c (a + j)).or v) = zbt c a (j + 1) v:=by
 funext i
 unfold updR zbt
 by_cases e : i = a + j
 ·subst e; rw [if_pos rfl,if_pos (by omega)]
 ·rw [if_neg e]
  by_cases e2 : a ≤ i ∧ i < a + j
  ·rw [if_pos e2,if_pos (by omega)]
  ·rw [if_neg e2,if_neg (by omega)]
theorem zms (c : Nat → Rg) (a n : Nat) (v : Rg) (hn : 1 ≤ n) : zbt c a (n + 1) v = zaC c a (a + n) v:=by
 funext i
 have e0 : zaC c a (a + n) v = fun j => if a ≤ j ∧ j ≤ a + n then (c j).or v else c j:=by unfold zaC; rw [if_neg (by omega)]
 rw [e0]
 unfold zbt
 show _ = if a ≤ i ∧ i ≤ a + n then (c i).or v else c i
 by_cases e : a ≤ i ∧ i < a + (n + 1)
 ·rw [if_pos e,if_pos (by omega)]
 ·rw [if_neg e,if_neg (by omega)]
structure StM (w wr : World) (b : Nat) (bv : Value) (k : Kn) (v : Rg) : Prop where
 kn : KnM wr b bv k
 lo : wr.cell? ⟨w.heap.size + 1,0,none⟩ = some (.int .i64 v.lo)
 hi : wr.cell? ⟨w.heap.size + 1,1,none⟩ = some (.int .i64 v.hi)
 low : w.grownBy wr (some b)
theorem StM.below {w wr wy : World} {b : Nat} {bv : Value} {k : Kn} {v : Rg} (L : StM w wr b bv k v) (hb : Below wr.heap.size wr wy) : StM w wy b bv k v:=by
 have h1 : w.heap.size + 1 < wr.heap.size:=World.block_lt_of_cell? wr _ L.lo
 have c : ∀ q j,q < wr.heap.size → wy.cell? ⟨q,j,none⟩ = wr.cell? ⟨q,j,none⟩:=fun q j hq => World.cell?_of_block (w:=wr) (a:=⟨q,j,none⟩) (hb.block q hq)
 exact ⟨L.kn.below hb L.kn.lt,(c _ _ h1).trans L.lo,(c _ _ h1).trans L.hi,zad L.low ⟨hb.os,hb.tape,hb.output,hb.size,fun q hq _ => hb.block q hq⟩⟩
theorem StM.put {w wr : World} {b : Nat} {bv : Value} {k : Kn} {v : Rg} (L : StM w wr b bv k v) (hb : b < w.heap.size) (a : Nat) (ha : a < 16) (u : Rg) : StM w ((wr.setCell ⟨b,16 + a * 2,none⟩ (.int .i64 u.lo)).setCell ⟨b,16 + a * 2 + 1,none⟩ (.int .i64 u.hi)) b bv { k with cells:=updR k.cells a u } v:=by
 have ne : ∀ x j,(⟨w.heap.size + 1,x,none⟩ : Addr) ≠ ⟨b,j,none⟩:=fun x j e => by
  have:=congrArg Addr.block e
  have : w.heap.size + 1 = b:=this
  omega
 refine ⟨L.kn.putC a ha u,?_,?_,zad L.low (zad (zai (Below.refl _ _)) (zai (Below.refl _ _)))⟩
 ·rw [World.cell?_setCell_other (h:=(ne _ _).symm),World.cell?_setCell_other (h:=(ne _ _).symm)]; exact L.lo
 ·rw [World.cell?_setCell_other (h:=(ne _ _).symm),World.cell?_setCell_other (h:=(ne _ _).symm)]; exact L.hi
theorem KnM.putR {w : World} {b : Nat} {bv : Value} {k : Kn} (h : KnM w b bv k) (a : Nat) (ha : a < 8) (v : Rg) : KnM ((w.setCell ⟨b,a * 2,none⟩ (.int .i64 v.lo)).setCell ⟨b,a * 2 + 1,none⟩ (.int .i64 v.hi)) b bv { k with regs:=updR k.regs a v }:=by
 have K1 : KnM (w.setCell ⟨b,a * 2,none⟩ (.int .i64 v.lo)) b bv { k with regs:=updR k.regs a ⟨v.lo,(k.regs a).hi⟩ }:=h.set (a * 2) _ _ (h.cR a ha).1 (fun c hc => ⟨by
  by_cases e : c = a
  ·subst e; rw [if_pos rfl]; show _ = Value.int .i64 (updR k.regs c ⟨v.lo,(k.regs c).hi⟩ c).lo; rw [zcW]
  ·rw [if_neg (by omega)]; show _ = Value.int .i64 (updR k.regs a ⟨v.lo,(k.regs a).hi⟩ c).lo; unfold updR; rw [if_neg e],by
  rw [if_neg (by omega)]
  show _ = Value.int .i64 (updR k.regs a ⟨v.lo,(k.regs a).hi⟩ c).hi
  unfold updR
  by_cases e : c = a
  ·subst e; rw [if_pos rfl]
  ·rw [if_neg e]⟩) (fun r hr => ⟨by rw [if_neg (by omega)],by rw [if_neg (by omega)]⟩) (by rw [if_neg (by omega)]) (by rw [if_neg (by omega)]) (by rw [if_neg (by omega)])
 refine K1.set (a * 2 + 1) _ _ (K1.cR a ha).2 (fun c hc => ⟨?_,?_⟩) (fun r hr => ⟨by rw [if_neg (by omega)],by rw [if_neg (by omega)]⟩) (by rw [if_neg (by omega)]) (by rw [if_neg (by omega)]) (by rw [if_neg (by omega)])
 ·rw [if_neg (by omega)]
  show Value.int .i64 (updR k.regs a ⟨v.lo,(k.regs a).hi⟩ c).lo = Value.int .i64 (updR k.regs a v c).lo
  unfold updR
  by_cases e : c = a
  ·rw [if_pos e,if_pos e]
  ·rw [if_neg e,if_neg e]
 ·show _ = Value.int .i64 (updR k.regs a v c).hi
  by_cases e : c = a
  ·subst e; rw [if_pos rfl,zcW]
  ·rw [if_neg (by omega)]
   show Value.int .i64 (updR k.regs a ⟨v.lo,(k.regs a).hi⟩ c).hi = _
   unfold updR
   rw [if_neg e,if_neg e]
def zfb (w : World) (b : Nat) (bv : Value) (k : Kn) (l r : Nat) (q : Option (Rg × Rg)) : Ending → World → Prop:=fun e w' => e = .returned (.bool q.isSome) ∧ w.grownBy w' (some b) ∧ ∃ x y,(∀ p,q = some p → p = (x,y)) ∧ KnM w' b bv { k with regs:=updR (updR k.regs l x) r y }
theorem zrF {w : World} {l r : Rg} {q : Option (Rg × Rg)} {e : Ending} {w' : World} (h : zdk w l r q e w') : ∃ x y,e = .returned (.tuple #[rv x,rv y,.bool q.isSome]) ∧ (∀ p,q = some p → p = (x,y)) ∧ Below w.heap.size w w':=by
 obtain ⟨hb,h⟩:=h
 cases q with
 | none => obtain ⟨x,y,rfl⟩:=h; exact ⟨x,y,rfl,fun p hp => (by cases hp),hb⟩
 | some p => obtain ⟨x,y⟩:=p; exact ⟨x,y,h,fun p hp => (by cases hp; rfl),hb⟩
theorem znJ {F : Nat} (hfn : ∀ (args : Array Value) (W : World),(callFunc F args).run Tryz.prog W = .ok (.enter F args) W) {w : World} {b : Nat} {bv : Value} {k : Kn} (h : KnM w b bv k) (l r : Nat) (hl : l < 8) (hr : r < 8) (hne : ¬ l = r) (q : Option (Rg × Rg)) (hF : ∀ W,Calls Tryz.prog F #[rv (k.regs l),rv (k.regs r)] W (zdk W (k.regs l) (k.regs r) q)) :
  Calls Tryz.prog 273 #[.pointer (some ⟨b,0,none⟩),.int .i64 (l : Int),.int .i64 (r : Int),.func (.func F) #[] #[]] w (zfb w b bv k l r q):=by
 obtain ⟨d0,d1⟩:=h.cR l hl
 obtain ⟨d2,d3⟩:=h.cR r hr
 have HB : ∀ W,Below w.heap.size w W → KnM W b bv k:=fun W hW => h.below hW h.lt
 have hlt:=h.lt
 have hl0 : (0 : Int) ≤ (l : Int):=by omega
 have hl1 : (l : Int) < 8:=by omega
 have hr0 : (0 : Int) ≤ (r : Int):=by omega
 have hr1 : (r : Int) < 8:=by omega
 have n1 : ¬ l * 2 = r * 2:=by omega
 have n2 : ¬ l * 2 + 1 = r * 2:=by omega
 have n3 : ¬ l * 2 = r * 2 + 1:=by omega
 have n4 : ¬ l * 2 + 1 = r * 2 + 1:=by omega
 have n5 : ¬ r * 2 = l * 2:=by omega
 have n6 : ¬ r * 2 + 1 = l * 2:=by omega
 have n7 : ¬ r * 2 = l * 2 + 1:=by omega
 have n8 : ¬ r * 2 + 1 = l * 2 + 1:=by omega
 clear h
 go_enter Tryz.func273,Tryz.ntmps273
 go_wp2
 go_region_with (first | ((with_reducible refine (hF _).mono ?_); intro e wy hy; obtain ⟨x,y,rfl,hxy,hby⟩:=zrF hy; have hX : Below w.heap.size w wy:=(Below.refl _ w).drew.trans hby; have LY:=HB _ hX; have y0:=(LY.cR l hl).1; have y1:=(LY.cR l hl).2; have y2:=LY.fz (l * 2); have y3:=LY.fz (l * 2 + 1); have y4:=(LY.cR r hr).1; have y5:=(LY.cR r hr).2; have y6:=LY.fz (r * 2); have y7:=LY.fz (r * 2 + 1)))
 all_goals go_wp2
 all_goals go_ret
 all_goals exact ⟨rfl,zad (zad (zad (zai hX) (zai (Below.refl _ _))) (zai (Below.refl _ _))) (zai (Below.refl _ _)),x,y,hxy,(LY.putR l hl x).putR r hr y⟩
theorem KnM.has {w : World} {b : Nat} {bv : Value} {k : Kn} (h : KnM w b bv k) (j : Nat) (hj : j < 51) : ∃ v,w.cell? ⟨b,j,none⟩ = some v ∧ (bv.oneCell' = true → v.oneCell' = true):=by
 by_cases h1 : j < 16
 ·rcases Nat.mod_two_eq_zero_or_one j with e | e
  ·have:=(h.cR (j / 2) (by omega)).1; rw [show j / 2 * 2 = j by omega] at this; exact ⟨_,this,fun _ => rfl⟩
  ·have:=(h.cR (j / 2) (by omega)).2; rw [show j / 2 * 2 + 1 = j by omega] at this; exact ⟨_,this,fun _ => rfl⟩
 ·by_cases h2 : j < 48
  ·rcases Nat.mod_two_eq_zero_or_one j with e | e
   ·have:=(h.cC ((j - 16) / 2) (by omega)).1; rw [show 16 + (j - 16) / 2 * 2 = j by omega] at this; exact ⟨_,this,fun _ => rfl⟩
   ·have:=(h.cC ((j - 16) / 2) (by omega)).2; rw [show 16 + (j - 16) / 2 * 2 + 1 = j by omega] at this; exact ⟨_,this,fun _ => rfl⟩
  ·rcases (by omega : j = 48 ∨ j = 49 ∨ j = 50) with e | e | e
   ·subst e; exact ⟨_,h.cN,fun _ => rfl⟩
   ·subst e; exact ⟨_,h.cB,fun h => h⟩
   ·subst e; exact ⟨_,h.cS,fun _ => rfl⟩
theorem KnM.row {w : World} {b : Nat} {bv : Value} {k : Kn} (h : KnM w b bv k) : ∃ cs : List Value,cs.length = 51 ∧ w.rangeAt b 0 cs ∧ (∀ j,j < 51 → cs[j]? = w.cell? ⟨b,j,none⟩) ∧ (bv.oneCell' = true → ∀ v ∈ cs,v.oneCell' = true):=by
 have key : ∀ j,j < 51 → ((List.range 51).map fun j => (w.cell? ⟨b,j,none⟩).getD undef)[j]? = w.cell? ⟨b,j,none⟩:=fun j hj => by
  obtain ⟨v,hv,_⟩:=h.has j hj
  rw [List.getElem?_map,List.getElem?_range hj,hv]
  simp [hv]
 refine ⟨(List.range 51).map fun j => (w.cell? ⟨b,j,none⟩).getD undef,by simp,fun j v hv => ?_,key,fun hb v hv => ?_⟩
 ·have hj : j < 51:=by
   have:=(List.getElem?_eq_some_iff.1 hv).1
   simpa using this
  rw [Nat.zero_add,← key j hj]
  exact hv
 ·obtain ⟨j,hj,rfl⟩:=List.mem_map.1 hv
  obtain ⟨v,hv,ho⟩:=h.has j (List.mem_range.1 hj)
  rw [hv]
  exact ho hb
structure KnR (w : World) (b o : Nat) (bv : Value) (k : Kn) : Prop where
 cR : ∀ r,r < 8 → w.cell? ⟨b,o + r * 2,none⟩ = some (.int .i64 (k.regs r).lo) ∧ w.cell? ⟨b,o + (r * 2 + 1),none⟩ = some (.int .i64 (k.regs r).hi)
 cC : ∀ c,c < 16 → w.cell? ⟨b,o + (16 + c * 2),none⟩ = some (.int .i64 (k.cells c).lo) ∧ w.cell? ⟨b,o + (16 + c * 2 + 1),none⟩ = some (.int .i64 (k.cells c).hi)
 cN : w.cell? ⟨b,o + 48,none⟩ = some (.int .i64 k.next)
 cB : w.cell? ⟨b,o + 49,none⟩ = some bv
 cS : w.cell? ⟨b,o + 50,none⟩ = some (.int .i64 k.steps)
theorem KnM.copyR {w w' : World} {b b' o : Nat} {bv : Value} {k : Kn} (h : KnM w b bv k) (e : ∀ j,j < 51 → w'.cell? ⟨b',o + j,none⟩ = w.cell? ⟨b,j,none⟩) : KnR w' b' o bv k :=
 ⟨fun r hr => ⟨(e _ (by omega)).trans (h.cR r hr).1,(e _ (by omega)).trans (h.cR r hr).2⟩,fun r hr => ⟨(e _ (by omega)).trans (h.cC r hr).1,(e _ (by omega)).trans (h.cC r hr).2⟩,(e _ (by omega)).trans h.cN,(e _ (by omega)).trans h.cB,(e _ (by omega)).trans h.cS⟩
theorem KnR.whole {w : World} {b : Nat} {bv : Value} {k : Kn} (h : KnR w b 0 bv k) (fz : ∀ j,w.frozen? ⟨b,j,none⟩ = false) : KnM w b bv k:=by
 obtain ⟨h1,h2,h3,h4,h5⟩:=h
 simp only [Nat.zero_add] at h1 h2 h3 h4 h5
 exact ⟨h1,h2,h3,h4,h5,fz⟩
theorem KnR.block {w w' : World} {b o : Nat} {bv : Value} {k : Kn} (h : KnR w b o bv k) (e : w'.heap[b]? = w.heap[b]?) : KnR w' b o bv k:=by
 have c : ∀ j,w'.cell? ⟨b,j,none⟩ = w.cell? ⟨b,j,none⟩:=fun j => World.cell?_of_block (w:=w) (a:=⟨b,j,none⟩) e
 exact ⟨fun r hr => ⟨(c _).trans (h.cR r hr).1,(c _).trans (h.cR r hr).2⟩,fun r hr => ⟨(c _).trans (h.cC r hr).1,(c _).trans (h.cC r hr).2⟩,(c _).trans h.cN,(c _).trans h.cB,(c _).trans h.cS⟩
structure WaysAt (w w' : World) (b : Nat) (bv : Value) (ks : List Kn) (ao : Option Addr) (ps : List Nat) : Prop where
 grown : w.grownBy w' (some b)
 ptrs : ∀ (i p : Nat),ps[i]? = some p → ∃ g,ao = some ⟨g,0,none⟩ ∧ w.heap.size ≤ g ∧ w'.cell? ⟨g,i,none⟩ = some (.pointer (some ⟨p,0,none⟩))
 len : ps.length = ks.length
 kn : ∀ (i p : Nat) (k : Kn),ps[i]? = some p → ks[i]? = some k → KnM w' p bv k
 nodup : ps.Nodup
 from' : ∀ p ∈ ps,p = b ∨ w.heap.size ≤ p
def zcu (w : World) (b : Nat) (bv : Value) (ks : List Kn) : Ending → World → Prop:=fun e w' => ∃ (ao : Option Addr) (cap : Nat) (ps : List Nat),e = .returned (.slice ao ps.length cap) ∧ WaysAt w w' b bv ks ao ps
theorem zj2 {w : World} {b : Nat} {bv : Value} {k : Kn} {e : Ending} {w' : World} (h : zaP w b bv k e w') : zcu w b bv [k] e w':=by
 obtain ⟨g,rfl,hg,hc,hk,hgr⟩:=h
 refine ⟨some ⟨g,0,none⟩,1,[b],rfl,⟨hgr,fun i p hp => ?_,rfl,fun i p k' hp hk' => ?_,by simp,fun p hp => .inl (List.mem_singleton.1 hp)⟩⟩
 ·cases i with
  | zero => cases hp; exact ⟨g,rfl,hg,hc⟩
  | succ i => simp at hp
 ·cases i with
  | zero => cases hp; cases hk'; exact hk
  | succ i => simp at hp
abbrev Z217 : Obj:=.cells #[.int .i64 0,.int .i64 0,.int .i64 0,.int .i64 0,.int .i64 0,.int .i64 0,.int .i64 0,.int .i64 0,.int .i64 0,.int .i64 0,.int .i64 0,.int .i64 0,.int .i64 0,.int .i64 0,.int .i64 0,.int .i64 0,.int .i64 0,.int .i64 0,.int .i64 0,.int .i64 0,.int .i64 0,.int .i64 0,.int .i64 0,.int .i64 0,.int .i64 0,.int .i64 0,.int .i64 0,.int .i64 0,.int .i64 0,.int .i64 0,.int .i64 0,.int .i64 0,.int .i64 0,.int .i64 0,.int .i64 0,.int .i64 0,.int .i64 0,.int .i64 0,.int .i64 0,.int .i64 0,.int .i64 0,.int .i64 0,.int .i64 0,.int .i64 0,.int .i64 0,.int .i64 0,.int .i64 0,.int .i64 0,.int .i64 0,.slice none 0 0,.int .i64 0] 217
theorem zew (w : World) : (w.alloc Z217).there w.heap.size 0 51:=fun j hj => by
 refine ⟨?_,by simp⟩
 have h:=World.cell?_alloc_new (w:=w) #[.int .i64 0,.int .i64 0,.int .i64 0,.int .i64 0,.int .i64 0,.int .i64 0,.int .i64 0,.int .i64 0,.int .i64 0,.int .i64 0,.int .i64 0,.int .i64 0,.int .i64 0,.int .i64 0,.int .i64 0,.int .i64 0,.int .i64 0,.int .i64 0,.int .i64 0,.int .i64 0,.int .i64 0,.int .i64 0,.int .i64 0,.int .i64 0,.int .i64 0,.int .i64 0,.int .i64 0,.int .i64 0,.int .i64 0,.int .i64 0,.int .i64 0,.int .i64 0,.int .i64 0,.int .i64 0,.int .i64 0,.int .i64 0,.int .i64 0,.int .i64 0,.int .i64 0,.int .i64 0,.int .i64 0,.int .i64 0,.int .i64 0,.int .i64 0,.int .i64 0,.int .i64 0,.int .i64 0,.int .i64 0,.int .i64 0,.slice none 0 0,.int .i64 0] 217 (0 + j)
 rw [h,Array.getElem?_eq_getElem (by simpa using hj)]
 rfl
theorem Tryz.size217 : (Tryz.prog.info? 217).map (·.size) = some 51:=by kernel_rfl
theorem KnM.fresh {w : World} {b : Nat} {bv : Value} {k : Kn} (h : KnM w b bv k) (cs : List Value) (hl : cs.length = 51) (hcs : ∀ j,j < 51 → cs[j]? = w.cell? ⟨b,j,none⟩) :
  KnM ((w.alloc Z217).setCells w.heap.size 0 cs) w.heap.size bv k ∧ KnM ((w.alloc Z217).setCells w.heap.size 0 cs) b bv k ∧ Below w.heap.size w ((w.alloc Z217).setCells w.heap.size 0 cs):=by
 have hb : Below w.heap.size w ((w.alloc Z217).setCells w.heap.size 0 cs):=zam _ 0 ((Below.refl w.heap.size w).alloc (Nat.le_refl _) _) (Nat.le_refl _)
 have ht:=zew w
 rw [← hl] at ht
 have hr:=World.rangeAt_setCells_same (w.alloc Z217) w.heap.size 0 cs ht
 refine ⟨(h.copyR (o:=0) fun j hj => ?_).whole fun j => ?_,h.below hb h.lt,hb⟩
 ·rw [← hcs j hj]
  have hjl : j < cs.length:=by omega
  rw [List.getElem?_eq_getElem hjl]
  exact hr j _ (List.getElem?_eq_getElem hjl)
 ·rw [World.frozen?_setCells]
  exact World.frozen?_alloc_at _ _ _ _ (by simp)
end Go.Proofs.YtfpgjkbjbbgciaaGreatDoor
