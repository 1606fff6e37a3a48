import Derived.Test.YtfpgjkbjbbgciaaGreatDoorMe30
import Derived.Test.YtfpgjkbjbbgciaaGreatDoorMe33
set_option maxRecDepth 100000
set_option maxHeartbeats 8000000
namespace Go.Proofs.YtfpgjkbjbbgciaaGreatDoor
open Go.RowKit Sp
theorem zcE {w w2 : World} {b : Nat} {bv : Value} {k : Kn} {e : Ending} {w' : World} (hg : w.grownBy w2 (some b)) (h : zaP w2 b bv k e w') : zaP w b bv k e w':=by
 obtain ⟨g,e1,hg1,hc,hk,hgr⟩:=h
 exact ⟨g,e1,Nat.le_trans hg.size hg1,hc,hk,zad hg hgr⟩
theorem za4 {w wx : World} {cs : Array Value} {t : TypeId} (hbx : Below (w.alloc (.cells cs t)).heap.size (w.alloc (.cells cs t)) wx) (j : Nat) : wx.cell? ⟨w.heap.size,j,none⟩ = cs[j]? :=
 (World.cell?_of_block (a:=⟨w.heap.size,j,none⟩) (hbx.block w.heap.size (by simp))).trans (World.cell?_alloc_new _ _ _ j)
theorem zeg {w wx w' : World} {o : Obj} {b i j : Nat} {u v bv : Value} {k : Kn} {e : Ending} (hX : Below (w.alloc o).heap.size (w.alloc o) wx) (h : zaP ((wx.setCell ⟨b,i,none⟩ u).setCell ⟨b,j,none⟩ v) b bv k e w') : zaP w b bv k e w' :=
 zcE (zad (zai (box1.trans (hX.mono (by simp)))) (zai (Below.refl _ _))) h
theorem zrO {w : World} {b : Nat} {bv : Value} {k : Kn} (h : KnM w b bv k) (r : Nat) (hr : r < 8) (n : Int) (h0 : 0 ≤ k.steps) (h1 : k.steps ≤ 100000) (n0 : 0 ≤ k.next) (n1 : k.next ≤ 100000) :
  Calls Tryz.prog 224 #[.agg #[.int .i64 (r : Int),.int .i64 n],.pointer (some ⟨b,0,none⟩)] w (zaP w b bv ({ k with regs:=updR k.regs r (only n) }.goTo (k.next + 1))):=by
 have hlt:=h.lt
 have r0 : (0 : Int) ≤ (r : Int):=by omega
 have r1 : (r : Int) < 8:=by omega
 have HB : ∀ W,Below (w.alloc (.cells #[.int .i64 (r : Int),.int .i64 n] 167)).heap.size (w.alloc (.cells #[.int .i64 (r : Int),.int .i64 n] 167)) W → KnM W b bv k:=fun W hW => (h.alloc _).below hW (by simp; omega)
 go_enter Tryz.func224,Tryz.ntmps224
 go_wp2
 go_region_with (first
  | (go_at_call 226; (with_reducible refine (zgH n _).mono ?_); rintro e wx0 ⟨rfl,hbx0⟩; have hX0 : Below (w.alloc (.cells #[.int .i64 (r : Int),.int .i64 n] 167)).heap.size (w.alloc (.cells #[.int .i64 (r : Int),.int .i64 n] 167)) wx0:=(Below.refl _ _).drew.trans hbx0; have hK0:=HB _ hX0; have c0:=(hK0.cR r hr).1; have c1:=(hK0.cR r hr).2; have z0:=hK0.fz (r * 2); have z1:=hK0.fz (r * 2 + 1); have v0 : wx0.cell? ⟨w.heap.size,0,none⟩ = some (.int .i64 (r : Int)):=za4 hX0 0; have v1 : wx0.cell? ⟨w.heap.size,1,none⟩ = some (.int .i64 n):=za4 hX0 1; have hKK:=hK0.putR r hr (only n)))
 all_goals go_wp2_with (go_at_call 227; (with_reducible refine (zbV hKK h0 h1 n0 n1).mono ?_); intro e w6 hw6; have hw7:=zeg hX0 hw6; clear hw6; obtain ⟨g,rfl,hg,hc,hk,hgr⟩:=hw7)
 all_goals go_ret
 all_goals exact ⟨g,rfl,hg,hc,hk,hgr⟩
theorem zrM {l r : Rg} (hl : l.Ok) (hr : r.Ok) (h : zec l r = none) (h' : zbi l r = none) : False:=by
 unfold Rg.Ok at hl hr
 unfold zec at h
 unfold zbi at h'
 split at h
 ·split at h'
  ·omega
  ·cases h'
 ·cases h
theorem zrN {l r : Rg} (h : zed l r = none) (h' : zaA l r = none) : False:=by
 unfold zed at h
 unfold zaA at h'
 split at h
 ·cases h
 ·split at h'
  ·omega
  ·cases h'
theorem zkZ {w : World} {b : Nat} {bv : Value} {k : Kn} (h : KnM w b bv k) (hbv : bv.oneCell' = true) (K : KnOk k) (l r : Nat) (hl : l < 8) (hr : r < 8) (hne : ¬ l = r) (z : Int) (h0 : 0 ≤ k.steps) (h1 : k.steps ≤ 100000) (n0 : 0 ≤ k.next) (n1 : k.next ≤ 100000) :
  Calls Tryz.prog 270 #[.pointer (some ⟨b,0,none⟩),.int .i64 (l : Int),.int .i64 (r : Int),.func (.func 271) #[] #[],.func (.func 272) #[] #[],.int .i64 z] w (zcu w b bv (zbs k l r zec zbi z)):=by
 have hF:=fun (q : Option (Rg × Rg)) (hq : zec (k.regs l) (k.regs r) = q) W b2 (hk : KnM W b2 bv k) => znJ (F:=271) (fun _ _ => by kernel_rfl) hk l r hl hr hne q (fun W => by rw [← hq]; exact ztV _ _ W (K.regs l hl) (K.regs r hr))
 have hG:=fun (q : Option (Rg × Rg)) (hq : zbi (k.regs l) (k.regs r) = q) W b2 (hk : KnM W b2 bv k) => znJ (F:=272) (fun _ _ => by kernel_rfl) hk l r hl hr hne q (fun W => by rw [← hq]; exact zmp _ _ W)
 unfold zbs
 cases hh : zec (k.regs l) (k.regs r) with
 | none => cases hf : zbi (k.regs l) (k.regs r) with
  | none => exact (zrM (K.regs l hl) (K.regs r hr) hh hf).elim
  | some p => obtain ⟨x,y⟩:=p; exact zhF h hbv l r z x y (hF _ hh) (hG _ hf) h0 h1 n0 n1
 | some p =>
  obtain ⟨x,y⟩:=p
  cases hf : zbi (k.regs l) (k.regs r) with
  | none => exact zhE h hbv l r z x y (hF _ hh) (hG _ hf) h0 h1
  | some p => obtain ⟨x',y'⟩:=p; exact zhG h hbv l r z x y x' y' (hF _ hh) (hG _ hf) h0 h1 n0 n1
theorem zla {w : World} {b : Nat} {bv : Value} {k : Kn} (h : KnM w b bv k) (hbv : bv.oneCell' = true) (K : KnOk k) (l r : Nat) (hl : l < 8) (hr : r < 8) (hne : ¬ l = r) (z : Int) (h0 : 0 ≤ k.steps) (h1 : k.steps ≤ 100000) (n0 : 0 ≤ k.next) (n1 : k.next ≤ 100000) :
  Calls Tryz.prog 270 #[.pointer (some ⟨b,0,none⟩),.int .i64 (l : Int),.int .i64 (r : Int),.func (.func 276) #[] #[],.func (.func 277) #[] #[],.int .i64 z] w (zcu w b bv (zbs k l r zed zaA z)):=by
 have hF:=fun (q : Option (Rg × Rg)) (hq : zed (k.regs l) (k.regs r) = q) W b2 (hk : KnM W b2 bv k) => znJ (F:=276) (fun _ _ => by kernel_rfl) hk l r hl hr hne q (fun W => by rw [← hq]; exact zud _ _ W)
 have hG:=fun (q : Option (Rg × Rg)) (hq : zaA (k.regs l) (k.regs r) = q) W b2 (hk : KnM W b2 bv k) => znJ (F:=277) (fun _ _ => by kernel_rfl) hk l r hl hr hne q (fun W => by rw [← hq]; exact zmr _ _ W (K.regs l hl) (K.regs r hr))
 unfold zbs
 cases hh : zed (k.regs l) (k.regs r) with
 | none => cases hf : zaA (k.regs l) (k.regs r) with
  | none => exact (zrN hh hf).elim
  | some p => obtain ⟨x,y⟩:=p; exact zhF h hbv l r z x y (hF _ hh) (hG _ hf) h0 h1 n0 n1
 | some p =>
  obtain ⟨x,y⟩:=p
  cases hf : zaA (k.regs l) (k.regs r) with
  | none => exact zhE h hbv l r z x y (hF _ hh) (hG _ hf) h0 h1
  | some p => obtain ⟨x',y'⟩:=p; exact zhG h hbv l r z x y x' y' (hF _ hh) (hG _ hf) h0 h1 n0 n1
theorem zmt {w : World} {b : Nat} {bv : Value} {k : Kn} (h : KnM w b bv k) (a n : Nat) (hn : 1 ≤ n) (ha : a + n ≤ 15) (v : Rg) : Calls Tryz.prog 258 #[.pointer (some ⟨b,0,none⟩),rv ⟨(a : Int),(a : Int) + (n : Int)⟩,rv v] w (zkQ w b bv { k with cells:=zaC k.cells a (a + n) v }):=by
 have hlt:=h.lt
 have hT : ∀ (W : World),KnM W b bv k → Calls Tryz.prog 255 #[.pointer (some ⟨b,0,none⟩),rv ⟨(a : Int),(a : Int) + (n : Int)⟩] W fun e w' => e = .returned (.slice (some ⟨b,16 + a * 2,none⟩) (n + 1) (16 - a)) ∧ Below W.heap.size W w':=fun W hW => by
  have t:=zdD hW ⟨(a : Int),(a : Int) + (n : Int)⟩ ⟨⟨by show _ ≤ (a : Int); omega,by show (a : Int) ≤ _; omega⟩,⟨by show _ ≤ (a : Int) + (n : Int); omega,by show (a : Int) + (n : Int) ≤ _; omega⟩,by show (a : Int) ≤ (a : Int) + (n : Int); omega⟩ (by show (0 : Int) ≤ (a : Int); omega) (by show (a : Int) + (n : Int) ≤ 15; omega)
  have e1 : ((a : Int) + (n : Int) + 1).toNat = a + n + 1:=by omega
  have e2 : ((a : Nat) : Int).toNat = a:=by omega
  have e3 : a + n + 1 - a = n + 1:=by omega
  simp only [e1,e2,e3] at t
  exact t
 have t1 : ((n : Int) + 1 == 1) = false:=by simpa using (by omega : ¬ ((n : Int) + 1 = 1))
 have t2 : ¬ n = 0:=by omega
 go_enter Tryz.func258,Tryz.ntmps258
 go_wp2_with (go_at_call 255; (with_reducible refine (hT _ ((h.alloc _).alloc _)).mono ?_); rintro e wx ⟨rfl,hbx⟩)
 have L0 : StM w wx b bv { k with cells:=zbt k.cells a 0 v } v:=by
  rw [zkR]
  have hl : Below w.heap.size w wx:=box2.trans (hbx.mono (by simp; omega))
  exact ⟨((h.alloc _).alloc _).below hbx (by simp; omega),zdd hbx 0,zdd hbx 1,⟨hl.os,hl.tape,hl.output,hl.size,fun q hq _ => hl.block q hq⟩⟩
 clear hbx hT
 go_loopw [19] (fun ti wr => ∃ j : Nat,j ≤ n + 1 ∧ ti = .int .i64 (j : Int) ∧ StM w wr b bv { k with cells:=zbt k.cells a j v } v) (fun ti _ => n + 1 - (intOf ti).toNat)
 case atStart => exact ⟨0,by omega,rfl,L0⟩
 case round =>
  obtain ⟨j,hj,rfl,L⟩:=hrel
  clear L0
  by_cases hjn : j < n + 1
  ·obtain ⟨d0,d1⟩:=L.kn.cC (a + j) (by omega)
   have z0:=L.kn.fz (16 + (a + j) * 2)
   have z1:=L.kn.fz (16 + (a + j) * 2 + 1)
   have HS : ∀ wy,StM w wy b bv { k with cells:=zbt k.cells a j v } v → StM w ((wy.setCell ⟨b,16 + a * 2 + j * 2,none⟩ (.int .i64 ((k.cells (a + j)).or v).lo)).setCell ⟨b,16 + a * 2 + j * 2 + 1,none⟩ (.int .i64 ((k.cells (a + j)).or v).hi)) b bv { k with cells:=zbt k.cells a (j + 1) v } v:=fun wy Ly => by
    have t:=Ly.put hlt (a + j) (by omega) ((k.cells (a + j)).or v)
    have e : updR (zbt k.cells a j v) (a + j) ((k.cells (a + j)).or v) = zbt k.cells a (j + 1) v:=zkS _ _ _ _
    rw [show 16 + (a + j) * 2 = 16 + a * 2 + j * 2 by omega] at t
    show StM w _ b bv { k with cells:=zbt k.cells a (j + 1) v } v
    rw [← e]
    exact t
   rw [show 16 + (a + j) * 2 = 16 + a * 2 + j * 2 by omega] at d0 d1 z0 z1
   have d0' : wr.cell? ⟨b,16 + a * 2 + j * 2,none⟩ = some (.int .i64 (k.cells (a + j)).lo):=by rw [d0]; show some (Value.int .i64 (zbt k.cells a j v (a + j)).lo) = _; rw [ziS]
   have d1' : wr.cell? ⟨b,16 + a * 2 + j * 2 + 1,none⟩ = some (.int .i64 (k.cells (a + j)).hi):=by rw [d1]; show some (Value.int .i64 (zbt k.cells a j v (a + j)).hi) = _; rw [ziS]
   clear d0 d1
   have hj0 : (0 : Int) ≤ (j : Int):=by omega
   have hj1 : (j : Int) < (n : Int) + 1:=by omega
   have hlL:=L.kn.lt
   have f0:=L.lo
   have f1:=L.hi
   have HH : Hid (∀ wy,StM w wy b bv { k with cells:=zbt k.cells a j v } v → StM w ((wy.setCell ⟨b,16 + a * 2 + j * 2,none⟩ (.int .i64 ((k.cells (a + j)).or v).lo)).setCell ⟨b,16 + a * 2 + j * 2 + 1,none⟩ (.int .i64 ((k.cells (a + j)).or v).hi)) b bv { k with cells:=zbt k.cells a (j + 1) v } v):=HS
   clear HS
   generalize k.cells (a + j) = c at d0' d1' HH
   have HB : ∀ W,Below wr.heap.size wr W → StM w W b bv { k with cells:=zbt k.cells a j v } v ∧ W.cell? ⟨b,16 + a * 2 + j * 2,none⟩ = some (.int .i64 c.lo) ∧ W.cell? ⟨b,16 + a * 2 + j * 2 + 1,none⟩ = some (.int .i64 c.hi) ∧ W.frozen? ⟨b,16 + a * 2 + j * 2,none⟩ = false ∧ W.frozen? ⟨b,16 + a * 2 + j * 2 + 1,none⟩ = false ∧ W.cell? ⟨w.heap.size + 1,0,none⟩ = some (.int .i64 v.lo) ∧ W.cell? ⟨w.heap.size + 1,1,none⟩ = some (.int .i64 v.hi):=fun W hW => by
    have LW:=L.below hW
    have e : ∀ i,W.cell? ⟨b,i,none⟩ = wr.cell? ⟨b,i,none⟩:=fun i => World.cell?_of_block (w:=wr) (a:=⟨b,i,none⟩) (hW.block b hlL)
    exact ⟨LW,(e _).trans d0',(e _).trans d1',LW.kn.fz _,LW.kn.fz _,LW.lo,LW.hi⟩
   clear L
   go_wp2
   go_region_with (first | (go_at_call 156; (with_reducible refine (znD c v _).mono ?_); rintro e wy ⟨rfl,hby⟩; have hX : Below wr.heap.size wr wy:=(Below.refl _ wr).drew.trans hby; have LY:=(HB _ hX).1; have y0:=(HB _ hX).2.1; have y1:=(HB _ hX).2.2.1; have y2:=(HB _ hX).2.2.2.1; have y3:=(HB _ hX).2.2.2.2.1))
   all_goals go_wp2
   all_goals exact ⟨⟨j + 1,by omega,by go_num,HH.out _ LY⟩,by simp [intOf]; omega⟩
  ·obtain rfl : j = n + 1:=by omega
   go_wp2
   refine bodyPost_end (results_none rfl _ _ _) rfl ⟨rfl,?_,L.low⟩
   rw [← zms k.cells a n v hn]
   exact L.kn
theorem zpl {w : World} {b : Nat} {bv : Value} {k : Kn} (h : KnM w b bv k) (r v : Rg) (hr : r.lo ≤ r.hi) (h0 : 0 ≤ r.lo) (h1 : r.hi ≤ 15) : Calls Tryz.prog 258 #[.pointer (some ⟨b,0,none⟩),rv r,rv v] w (zkQ w b bv { k with cells:=zaC k.cells r.lo.toNat r.hi.toNat v }):=by
 obtain ⟨lo,hi⟩:=r
 obtain ⟨a,rfl⟩ : ∃ a : Nat,lo = (a : Int):=⟨lo.toNat,by have : 0 ≤ lo:=h0; omega⟩
 obtain ⟨n,rfl⟩ : ∃ n : Nat,hi = (a : Int) + (n : Int):=⟨(hi - a).toNat,by have : (a : Int) ≤ hi:=hr; omega⟩
 have h1' : (a : Int) + (n : Int) ≤ 15:=h1
 have e1 : ((a : Int) + (n : Int)).toNat = a + n:=by omega
 have e2 : ((a : Nat) : Int).toNat = a:=by omega
 show Calls Tryz.prog 258 #[.pointer (some ⟨b,0,none⟩),rv ⟨(a : Int),(a : Int) + (n : Int)⟩,rv v] w (zkQ w b bv { k with cells:=zaC k.cells ((a : Nat) : Int).toNat ((a : Int) + (n : Int)).toNat v })
 rw [e1,e2]
 by_cases hn : n = 0
 ·subst hn
  have e3 : zaC k.cells a (a + 0) v = updR k.cells a v:=by unfold zaC; rw [if_pos (by omega)]
  rw [e3]
  have e4 : (a : Int) + ((0 : Nat) : Int) = (a : Int):=by omega
  rw [e4]
  exact zpk h a (by omega) v
 ·exact zmt h a n (by omega) (by omega) v
def newL (iv : Value) : List Value:=List.replicate 24 (.int .i64 0) ++ [iv,.slice none 0 0,.int .i64 0,.slice none 0 0,.int .i64 0,.int .i64 1,.int .i64 0]
theorem ztD (ao : Option Addr) (n c : Nat) : Tryz.prog.built 195 [(2,.slice ao n c),(7,.int .i64 1)] = some (newL (.slice ao n c)).toArray:=by kernel_rfl
theorem zoO (iv : Value) : (newL iv)[24]? = some iv ∧ (newL iv)[25]? = some (.slice none 0 0) ∧ (newL iv)[26]? = some (.int .i64 0) ∧ (newL iv)[27]? = some (.slice none 0 0) ∧ (newL iv)[28]? = some (.int .i64 0) ∧ (newL iv)[29]? = some (.int .i64 1) ∧ (newL iv)[30]? = some (.int .i64 0):=⟨rfl,rfl,rfl,rfl,rfl,rfl,rfl⟩
theorem zkD (iv : Value) (i : Nat) (h : i < 24) : (newL iv)[i]? = some (.int .i64 0):=by
 unfold newL
 rw [List.getElem?_append_left (by simpa using h),List.getElem?_replicate,if_pos h]
theorem zv0 (w : World) (iv : Value) (inp : List Int) : MchM (w.alloc (.cells (newL iv).toArray 195)) w.heap.size (.slice none 0 0) iv (.slice none 0 0) (zbe inp):=by
 have hr:=zdu w (newL iv) 195
 have hx : ∀ j v,(newL iv)[j]? = some v → (w.alloc (.cells (newL iv).toArray 195)).cell? ⟨w.heap.size,j,none⟩ = some v:=fun j v hv => by have:=hr j v hv; rwa [Nat.zero_add] at this
 obtain ⟨c1,c2,c3,c4,c5,c6,c7⟩:=zoO iv
 exact ⟨fun i hi => hx i _ (zkD iv i (by omega)),fun i hi => hx (8 + i) _ (zkD iv _ (by omega)),hx _ _ c1,hx _ _ c2,hx _ _ c3,hx _ _ c4,hx _ _ c5,hx _ _ c6,hx _ _ c7,fun o => by simp⟩
theorem ztE (w : World) (ao : Option Addr) (icap : Nat) (inp : List Int) (hiv : SlB w w.heap.size (.slice ao inp.length icap) inp) :
  Calls Tryz.prog 82 #[.slice ao inp.length icap] w fun e w' => e = .returned (.pointer (some ⟨w.heap.size,0,none⟩)) ∧ (∃ bv iv ov,MchAt w' w.heap.size (zbe inp) bv iv ov) ∧ Below w.heap.size w w':=by
 have hb:=ztD ao inp.length icap
 have hm:=zv0 w (.slice ao inp.length icap) inp
 generalize hds : newL (.slice ao inp.length icap) = ds at hb hm
 go_enter Tryz.func82,Tryz.ntmps82
 go_wp2_with (first
  | (refine wpList_build rfl 195 _ rfl ?_ ?_
     ·simp [Act.eval,hb]
     simp only [List.map_toArray,List.map_cons,List.map_nil,Act.eval]
     refine Hid.out ?_))
 unfold Hid
 erw [hb]
 simp only [Option.getD_some,Act.put,List.setIfInBounds_toArray,List.set_cons_succ,List.set_cons_zero]
 go_wp2_with (first | (refine Go.Great.wpList_boxTo rfl 195 _ rfl _ rfl w.heap.size rfl ds.toArray rfl ?_))
 go_ret
 have hB : Below w.heap.size w (w.alloc (.cells ds.toArray 195)):=(Below.refl _ _).alloc (Nat.le_refl _) _
 exact ⟨rfl,⟨_,_,_,hm,World.ownsRow_nil _ _ _ _,World.ownsRow_nil _ _ _ _,hiv.below hB⟩,hB⟩
theorem zpm {w : World} {b cap : Nat} {ao : Option Addr} {k : Kn} (h : KnM w b (.slice ao k.behind.length cap) k) (z : Int) (hlen : k.behind.length = 15) :
  Calls Tryz.prog 282 #[.pointer (some ⟨b,0,none⟩),.int .i64 z] w fun e w' => e = zah 8 0 ∧ w' = w:=by
 have hfr:=zfa h (by omega)
 rw [hlen] at hfr
 go_enter Tryz.func282,Tryz.ntmps282
 go_wp2_with (first
  | (go_at_call 136; (with_reducible refine hfr.mono ?_); rintro e wx ⟨rfl,hww⟩; have hw2:=hww.symm; subst hw2))
 all_goals go_wp2
 exact ⟨rfl,rfl,rfl,rfl,rfl⟩
theorem zvF {w : World} {b g m cap : Nat} {k : Kn} {z : Int} (h : KnM w b (.slice (some ⟨g,0,none⟩) (m + 1) cap) k) (hm : m ≤ 15) (hc : m + 1 ≤ cap) (_hc2 : cap ≤ maxLen) (hz : w.cell? ⟨g,m,none⟩ = some (.int .i64 z)) (l : List Int) (h0 : 0 ≤ k.steps) (h1 : k.steps ≤ 100000) : Calls Tryz.prog 287 #[.pointer (some ⟨b,0,none⟩)] w (zaP w b (.slice (some ⟨g,0,none⟩) m cap) ({ k with behind:=l }.goTo z)):=by
 have c:=h.cS
 have n:=h.cN
 have d:=h.cB
 have f1:=h.fz 50
 have f2:=h.fz 48
 have f3:=h.fz 49
 have hlt:=h.lt
 unfold maxLen at _hc2
 have K:=h.putB (.slice (some ⟨g,0,none⟩) m cap) l
 go_enter Tryz.func287,Tryz.ntmps287
 go_wp2
 go_ret
 obtain ⟨g2,e2,l2,c2,k2,gr⟩:=znI K z
 rw [World.size_setCell] at e2 l2
 exact ⟨g2,e2,l2,c2,k2,zad (zai (Below.refl _ _)) gr⟩
theorem zpn {w : World} {b cap : Nat} {ao : Option Addr} {k : Kn} {x : Int} {l : List Int} (h : KnM w b (.slice ao k.behind.length cap) k) (B : BhM w ao cap k.behind) (hk : k.behind = l ++ [x]) (ap : ∀ a,ao = some a → ¬ a.block = b) (h0 : 0 ≤ k.steps) (h1 : k.steps ≤ 100000) :
  Calls Tryz.prog 287 #[.pointer (some ⟨b,0,none⟩)] w fun e w' => zaP w b (.slice ao l.length cap) ({ k with behind:=l }.goTo x) e w' ∧ BhM w' ao cap l:=by
 have hl : k.behind.length = l.length + 1:=by rw [hk]; simp
 cases ao with
 | none => obtain ⟨e,_⟩:=B.nil rfl; rw [e] at hl; simp at hl
 | some a =>
  obtain ⟨g,rfl⟩:=B.at0 a rfl
  have b1:=B.len
  have b2:=B.le
  rw [hl] at h b1 b2
  refine (zvF h (by omega) b2 B.top ((B.cell g rfl).2 l.length x (by rw [hk]; simp)) l h0 h1).mono ?_
  rintro e w' hw
  refine ⟨hw,?_⟩
  obtain ⟨g2,e2,l2,c2,k2,gr⟩:=hw
  have B2 : BhM w' (some ⟨g,0,none⟩) cap k.behind:=B.grown gr ap
  exact ⟨by omega,by omega,B2.top,fun e => (by cases e),B2.at0,fun g' e => ⟨(B2.cell g' e).1,fun i v hv => (B2.cell g' e).2 i v (by rw [hk,List.getElem?_append_left (List.getElem?_eq_some_iff.1 hv).1]; exact hv)⟩⟩
theorem ziV {w w2 : World} {b : Nat} {bv : Value} {ks : List Kn} {e : Ending} {w' : World} (hg : w.grownBy w2 (some b)) (h : zcu w2 b bv ks e w') : zcu w b bv ks e w':=by
 obtain ⟨ao,cap,ps,rfl,A⟩:=h
 refine ⟨ao,cap,ps,rfl,⟨zad hg A.grown,fun i p hp => ?_,A.len,A.kn,A.nodup,fun p hp => ?_⟩⟩
 ·obtain ⟨g,e,h1,h2⟩:=A.ptrs i p hp
  exact ⟨g,e,Nat.le_trans hg.size h1,h2⟩
 ·rcases A.from' p hp with e | e
  ·exact .inl e
  ·exact .inr (Nat.le_trans hg.size e)
theorem zm3 {w : World} {b : Nat} {bv : Value} {k : Kn} (h : KnM w b bv k) (r : Nat) (h0 : 0 ≤ k.steps) (h1 : k.steps ≤ 100000) (n0 : 0 ≤ k.next) (n1 : k.next ≤ 100000) :
  Calls Tryz.prog 263 #[.agg #[.int .i64 (r : Int)],.pointer (some ⟨b,0,none⟩)] w (zaP w b bv (k.goTo (k.next + 1))):=by
 have hK:=h.alloc (.cells #[.int .i64 (r : Int)] 182)
 go_enter Tryz.func263,Tryz.ntmps263
 go_wp2_with (go_at_call 227; (with_reducible refine (zbV hK h0 h1 n0 n1).mono ?_); intro e w6 hw6; have hw7:=zcE (zaJ (b:=some b) box1) hw6; clear hw6; obtain ⟨g,rfl,hg,hc,hk,hgr⟩:=hw7)
 go_ret
 exact ⟨g,rfl,hg,hc,hk,hgr⟩
theorem zp0 {w : World} {b : Nat} {bv : Value} {k : Kn} (h : KnM w b bv k) (z : Int) (h0 : 0 ≤ k.steps) (h1 : k.steps ≤ 100000) :
  Calls Tryz.prog 266 #[.agg #[.int .i64 z],.pointer (some ⟨b,0,none⟩)] w (zaP w b bv (k.goTo z)):=by
 have hK:=h.alloc (.cells #[.int .i64 z] 185)
 go_enter Tryz.func266,Tryz.ntmps266
 go_wp2_with (go_at_call 229; (with_reducible refine (zfy hK z h0 h1).mono ?_); intro e w6 hw6; have hw7:=zcE (zaJ (b:=some b) box1) hw6; clear hw6; obtain ⟨g,rfl,hg,hc,hk,hgr⟩:=hw7)
 go_ret
 exact ⟨g,rfl,hg,hc,hk,hgr⟩
theorem zp1 {w : World} (p : Value) : Calls Tryz.prog 289 #[.agg #[],p] w fun e w' => e = .returned (.slice none 0 0) ∧ Below w.heap.size w w':=by
 go_enter Tryz.func289,Tryz.ntmps289
 go_wp2
 go_ret
 exact ⟨rfl,box1⟩
theorem zp2 {w : World} {b cap : Nat} {ao : Option Addr} {k : Kn} (h : KnM w b (.slice ao k.behind.length cap) k) (B : BhM w ao cap k.behind) (z : Int) (hlen : k.behind.length < 15) (h0 : 0 ≤ k.steps) (h1 : k.steps ≤ 100000) (n0 : 0 ≤ k.next) (n1 : k.next ≤ 100000) :
  Calls Tryz.prog 280 #[.agg #[.int .i64 z],.pointer (some ⟨b,0,none⟩)] w (znK w b k z):=by
 have hK:=h.alloc (.cells #[.int .i64 z] 190)
 have hB:=B.below (w':=w.alloc (.cells #[.int .i64 z] 190)) box1
 go_enter Tryz.func280,Tryz.ntmps280
 go_wp2_with (go_at_call 282; (with_reducible refine (zrG hK hB z hlen h0 h1 n0 n1).mono ?_); intro e w6 hw6; obtain ⟨g4,c4,hw7,hB7,hg7⟩:=hw6; have hw8:=zcE (zaJ (b:=some b) box1) hw7; clear hw7; obtain ⟨g,rfl,hg,hc,hk,hgr⟩:=hw8)
 go_ret
 exact ⟨g4,c4,⟨g,rfl,hg,hc,hk,hgr⟩,hB7,Nat.le_trans (by simp) hg7⟩
theorem zhL {w : World} {b cap : Nat} {ao : Option Addr} {k : Kn} (h : KnM w b (.slice ao k.behind.length cap) k) (z : Int) (hlen : k.behind.length = 15) :
  Calls Tryz.prog 280 #[.agg #[.int .i64 z],.pointer (some ⟨b,0,none⟩)] w fun e w' => e = zah 8 0 ∧ Below w.heap.size w w':=by
 have hK:=h.alloc (.cells #[.int .i64 z] 190)
 go_enter Tryz.func280,Tryz.ntmps280
 go_wp2_with (go_at_call 282; (with_reducible refine (zpm hK z hlen).mono ?_); rintro e wx ⟨rfl,hww⟩; have hw2:=hww.symm; subst hw2)
 exact ⟨rfl,rfl,box1⟩
theorem zhM {w : World} {b cap : Nat} {ao : Option Addr} {k : Kn} (h : KnM w b (.slice ao 0 cap) k) : Calls Tryz.prog 285 #[.agg #[],.pointer (some ⟨b,0,none⟩)] w fun e w' => e = .returned (.slice none 0 0) ∧ Below w.heap.size w w':=by
 have hK:=h.alloc (.cells #[] 192)
 go_enter Tryz.func285,Tryz.ntmps285
 go_wp2_with (go_at_call 287; (with_reducible refine (zrC hK).mono ?_); rintro e wx ⟨rfl,hww⟩; have hw2:=hww.symm; subst hw2)
 go_ret
 exact ⟨rfl,box1⟩
theorem zhN {w : World} {b cap : Nat} {ao : Option Addr} {k : Kn} {x : Int} {l : List Int} (h : KnM w b (.slice ao k.behind.length cap) k) (B : BhM w ao cap k.behind) (hk : k.behind = l ++ [x]) (ap : ∀ a,ao = some a → ¬ a.block = b) (h0 : 0 ≤ k.steps) (h1 : k.steps ≤ 100000) :
  Calls Tryz.prog 285 #[.agg #[],.pointer (some ⟨b,0,none⟩)] w fun e w' => zaP w b (.slice ao l.length cap) ({ k with behind:=l }.goTo x) e w' ∧ BhM w' ao cap l:=by
 have hK:=h.alloc (.cells #[] 192)
 have hB:=B.below (w':=w.alloc (.cells #[] 192)) box1
 go_enter Tryz.func285,Tryz.ntmps285
 go_wp2_with (go_at_call 287; (with_reducible refine (zpn hK hB hk ap h0 h1).mono ?_); intro e w6 hw6; obtain ⟨hw7,hB7⟩:=hw6; have hw8:=zcE (zaJ (b:=some b) box1) hw7; clear hw7; obtain ⟨g,rfl,hg,hc,hk,hgr⟩:=hw8)
 go_ret
 exact ⟨⟨g,rfl,hg,hc,hk,hgr⟩,hB7⟩
end Go.Proofs.YtfpgjkbjbbgciaaGreatDoor
