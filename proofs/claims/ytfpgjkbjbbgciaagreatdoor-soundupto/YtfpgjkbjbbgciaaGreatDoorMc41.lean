import Derived.Test.YtfpgjkbjbbgciaaGreatDoorMc40
set_option maxRecDepth 100000
set_option maxHeartbeats 8000000
namespace Go.Proofs.YtfpgjkbjbbgciaaGreatDoor
open Go.RowKit Sp
theorem ziY {w w2 : World} {b : Nat} {bv : Value} {ks : List Kn} {e : Ending} {w' : World} (hg : w.grownBy w2 (some b)) (h : zc7 w2 b bv ks e w') : zc7 w b bv ks e w':=by
 obtain ⟨ao,cap,ps,rfl,A⟩:=h
 refine ⟨ao,cap,ps,rfl,⟨zaf hg A.grown,fun i p hp => ?_,A.len,A.kn,A.nodup,fun p hp => ?_⟩⟩
 ·obtain ⟨g,e,h1,h2⟩:=A.ptrs i p hp
  exact ⟨g,e,Nat.le_trans hg.size h1,h2⟩
 ·rcases A.from' p hp with e | e
  ·exact .inl e
  ·exact .inr (Nat.le_trans hg.size e)
theorem zmE {w : World} {b : Nat} {bv : Value} {k : Kn} (h : KnM w b bv k) (r : Nat) (h0 : 0 ≤ k.steps) (h1 : k.steps ≤ 100000) (n0 : 0 ≤ k.next) (n1 : k.next ≤ 100000) :
  Calls Tryz.prog 263 #[.agg #[.int .i64 (r : Int)],.pointer (some ⟨b,0,none⟩)] w (zaN w b bv (k.goTo (k.next + 1))):=by
 have hK:=h.alloc (.cells #[.int .i64 (r : Int)] 182)
 go_enter Tryz.func263,Tryz.ntmps263
 go_wp2_with (go_at_call 227; (with_reducible refine (zcc hK h0 h1 n0 n1).mono ?_); intro e w6 hw6; have hw7:=zdb (zaH (b:=some b) box1) hw6; clear hw6; obtain ⟨g,rfl,hg,hc,hk,hgr⟩:=hw7)
 go_ret
 exact ⟨g,rfl,hg,hc,hk,hgr⟩
theorem zp7 {w : World} {b : Nat} {bv : Value} {k : Kn} (h : KnM w b bv k) (z : Int) (h0 : 0 ≤ k.steps) (h1 : k.steps ≤ 100000) :
  Calls Tryz.prog 266 #[.agg #[.int .i64 z],.pointer (some ⟨b,0,none⟩)] w (zaN w b bv (k.goTo z)):=by
 have hK:=h.alloc (.cells #[.int .i64 z] 185)
 go_enter Tryz.func266,Tryz.ntmps266
 go_wp2_with (go_at_call 229; (with_reducible refine (zf9 hK z h0 h1).mono ?_); intro e w6 hw6; have hw7:=zdb (zaH (b:=some b) box1) hw6; clear hw6; obtain ⟨g,rfl,hg,hc,hk,hgr⟩:=hw7)
 go_ret
 exact ⟨g,rfl,hg,hc,hk,hgr⟩
theorem zp8 {w : World} (p : Value) : Calls Tryz.prog 289 #[.agg #[],p] w fun e w' => e = .returned (.slice none 0 0) ∧ Below w.heap.size w w':=by
 go_enter Tryz.func289,Tryz.ntmps289
 go_wp2
 go_ret
 exact ⟨rfl,box1⟩
theorem zp9 {w : World} {b cap : Nat} {ao : Option Addr} {k : Kn} (h : KnM w b (.slice ao k.behind.length cap) k) (B : BhM w ao cap k.behind) (z : Int) (hlen : k.behind.length < 15) (h0 : 0 ≤ k.steps) (h1 : k.steps ≤ 100000) (n0 : 0 ≤ k.next) (n1 : k.next ≤ 100000) :
  Calls Tryz.prog 280 #[.agg #[.int .i64 z],.pointer (some ⟨b,0,none⟩)] w (znN w b k z):=by
 have hK:=h.alloc (.cells #[.int .i64 z] 190)
 have hB:=B.below (w':=w.alloc (.cells #[.int .i64 z] 190)) box1
 go_enter Tryz.func280,Tryz.ntmps280
 go_wp2_with (go_at_call 282; (with_reducible refine (zrW hK hB z hlen h0 h1 n0 n1).mono ?_); intro e w6 hw6; obtain ⟨g4,c4,hw7,hB7,hg7⟩:=hw6; have hw8:=zdb (zaH (b:=some b) box1) hw7; clear hw7; obtain ⟨g,rfl,hg,hc,hk,hgr⟩:=hw8)
 go_ret
 exact ⟨g4,c4,⟨g,rfl,hg,hc,hk,hgr⟩,hB7,Nat.le_trans (by simp) hg7⟩
theorem zhH {w : World} {b cap : Nat} {ao : Option Addr} {k : Kn} (h : KnM w b (.slice ao k.behind.length cap) k) (z : Int) (hlen : k.behind.length = 15) :
  Calls Tryz.prog 280 #[.agg #[.int .i64 z],.pointer (some ⟨b,0,none⟩)] w fun e w' => e = zah 8 0 ∧ Below w.heap.size w w':=by
 have hK:=h.alloc (.cells #[.int .i64 z] 190)
 go_enter Tryz.func280,Tryz.ntmps280
 go_wp2_with (go_at_call 282; (with_reducible refine (zpt hK z hlen).mono ?_); rintro e wx ⟨rfl,hww⟩; have hw2:=hww.symm; subst hw2)
 exact ⟨rfl,rfl,box1⟩
theorem zhI {w : World} {b cap : Nat} {ao : Option Addr} {k : Kn} (h : KnM w b (.slice ao 0 cap) k) : Calls Tryz.prog 285 #[.agg #[],.pointer (some ⟨b,0,none⟩)] w fun e w' => e = .returned (.slice none 0 0) ∧ Below w.heap.size w w':=by
 have hK:=h.alloc (.cells #[] 192)
 go_enter Tryz.func285,Tryz.ntmps285
 go_wp2_with (go_at_call 287; (with_reducible refine (zrS hK).mono ?_); rintro e wx ⟨rfl,hww⟩; have hw2:=hww.symm; subst hw2)
 go_ret
 exact ⟨rfl,box1⟩
theorem zhJ {w : World} {b cap : Nat} {ao : Option Addr} {k : Kn} {x : Int} {l : List Int} (h : KnM w b (.slice ao k.behind.length cap) k) (B : BhM w ao cap k.behind) (hk : k.behind = l ++ [x]) (ap : ∀ a,ao = some a → ¬ a.block = b) (h0 : 0 ≤ k.steps) (h1 : k.steps ≤ 100000) :
  Calls Tryz.prog 285 #[.agg #[],.pointer (some ⟨b,0,none⟩)] w fun e w' => zaN w b (.slice ao l.length cap) ({ k with behind:=l }.goTo x) e w' ∧ BhM w' ao cap l:=by
 have hK:=h.alloc (.cells #[] 192)
 have hB:=B.below (w':=w.alloc (.cells #[] 192)) box1
 go_enter Tryz.func285,Tryz.ntmps285
 go_wp2_with (go_at_call 287; (with_reducible refine (zpu hK hB hk ap h0 h1).mono ?_); intro e w6 hw6; obtain ⟨hw7,hB7⟩:=hw6; have hw8:=zdb (zaH (b:=some b) box1) hw7; clear hw7; obtain ⟨g,rfl,hg,hc,hk,hgr⟩:=hw8)
 go_ret
 exact ⟨⟨g,rfl,hg,hc,hk,hgr⟩,hB7⟩
theorem zgI {w wx : World} {o : Obj} {cs : Array Value} {t : TypeId} (hbx : Below ((w.alloc o).alloc (.cells cs t)).heap.size ((w.alloc o).alloc (.cells cs t)) wx) (j : Nat) : wx.frozen? ⟨w.heap.size + 1,j,none⟩ = false:=by
 have e:=World.frozen?_of_block (a:=⟨w.heap.size + 1,j,none⟩) (hbx.block (w.heap.size + 1) (by simp))
 rw [e]
 exact World.frozen?_alloc_at _ _ _ _ (by simp)
theorem ziX {w wx : World} {o : Obj} {cs : Array Value} {t : TypeId} (hbx : Below ((w.alloc (.cells cs t)).alloc o).heap.size ((w.alloc (.cells cs t)).alloc o) wx) (j : Nat) : wx.cell? ⟨w.heap.size,j,none⟩ = cs[j]? :=
 (World.cell?_of_block (a:=⟨w.heap.size,j,none⟩) ((hbx.block w.heap.size (by simp; omega)).trans (Below.heap_alloc _ _ _ (by simp)))).trans (World.cell?_alloc_new _ _ _ j)
def subR (k : Kn) (s t : Nat) : Rg:=if s = t then only 0 else (k.regs s).minus (k.regs t)
theorem zsm {w : World} {b : Nat} {k : Kn} (r s : Nat) : Calls Tryz.prog 241 #[.agg #[.int .i64 (r : Int),.int .i64 (s : Int),.int .i64 (s : Int)],.pointer (some ⟨b,0,none⟩)] w fun e w' => e = .returned (rv (subR k s s)) ∧ Below w.heap.size w w':=by
 have e0 : subR k s s = only 0:=if_pos rfl
 rw [e0]
 go_enter Tryz.func241,Tryz.ntmps241
 go_wp2_with (go_at_call 226; (with_reducible refine (zgH 0 _).mono ?_); rintro e wx ⟨rfl,hbx⟩; have c0 : wx.cell? ⟨w.heap.size + 1,0,none⟩ = some (.int .i64 0):=zdv hbx 0; have c1 : wx.cell? ⟨w.heap.size + 1,1,none⟩ = some (.int .i64 0):=zdv hbx 1; have z0:=zgI hbx 0; have z1:=zgI hbx 1)
 exact zby (r:=only 0) Tryz.results241 rfl rfl (zao c0 c1).1 (zao c0 c1).2 ⟨rfl,zas (box2.trans (hbx.mono (by simp; omega))) (by omega)⟩
theorem zp4 {w : World} {b : Nat} {bv : Value} {k : Kn} (h : KnM w b bv k) (r s : Nat) (hs : s < 8) (t : Nat) (ht : t < 8) (hne : ¬ s = t) : Calls Tryz.prog 241 #[.agg #[.int .i64 (r : Int),.int .i64 (s : Int),.int .i64 (t : Int)],.pointer (some ⟨b,0,none⟩)] w fun e w' => e = .returned (rv (subR k s t)) ∧ Below w.heap.size w w':=by
 have e0 : subR k s t = (k.regs s).minus (k.regs t):=if_neg hne
 rw [e0]
 have hlt:=h.lt
 have s0 : (0 : Int) ≤ (s : Int):=by omega
 have s1 : (s : Int) < 8:=by omega
 have u0 : (0 : Int) ≤ (t : Int):=by omega
 have u1 : (t : Int) < 8:=by omega
 have t0 : ((s : Int) == (t : Int)) = false:=by simpa using (by omega : ¬ (s : Int) = (t : Int))
 obtain ⟨A,hA⟩ : ∃ A,(w.alloc (.cells #[.int .i64 (r : Int),.int .i64 (s : Int),.int .i64 (t : Int)] 172)).alloc (.cells #[.int .i64 0,.int .i64 0] 213) = A:=⟨_,rfl⟩
 have HB : ∀ W,Below A.heap.size A W → KnM W b bv k:=fun W hW => by subst hA; exact ((h.alloc _).alloc _).below hW (by simp; omega)
 have hC : ∀ W,Below A.heap.size A W → W.cell? ⟨w.heap.size + 1,0,none⟩ = some (.int .i64 0) ∧ W.cell? ⟨w.heap.size + 1,1,none⟩ = some (.int .i64 0) ∧ W.frozen? ⟨w.heap.size + 1,0,none⟩ = false ∧ W.frozen? ⟨w.heap.size + 1,1,none⟩ = false:=fun W hW => by subst hA; exact ⟨zdv hW 0,zdv hW 1,zgI hW 0,zgI hW 1⟩
 have hL : ∀ W,Below A.heap.size A W → Below w.heap.size w W:=fun W hW => by subst hA; exact box2.trans (hW.mono (by simp; omega))
 have HF : ∀ W,Below A.heap.size A W → (W.cell? ⟨w.heap.size,1,none⟩ = some (.int .i64 (s : Int)) ∧ W.cell? ⟨w.heap.size,2,none⟩ = some (.int .i64 (t : Int))) ∧ (W.cell? ⟨b,s * 2,none⟩ = some (.int .i64 (k.regs s).lo) ∧ W.cell? ⟨b,s * 2 + 1,none⟩ = some (.int .i64 (k.regs s).hi)) ∧ (W.cell? ⟨b,t * 2,none⟩ = some (.int .i64 (k.regs t).lo) ∧ W.cell? ⟨b,t * 2 + 1,none⟩ = some (.int .i64 (k.regs t).hi)):=fun W hW =>
  ⟨by subst hA; exact ⟨ziX hW 1,ziX hW 2⟩,(HB W hW).cR s hs,(HB W hW).cR t ht⟩
 obtain ⟨⟨f1,f2⟩,_⟩:=HF A (Below.refl _ _)
 go_enter Tryz.func241,Tryz.ntmps241
 go_wp2
 refine zad 15 (fun W => Below A.heap.size A W) (Below.refl _ _).drew (by kernel_rfl) (by kernel_rfl) ?_
 simp only [List.take_succ_cons,List.take_zero,List.drop_succ_cons,List.drop_zero]
 clear f1 f2
 repeat (refine zab rfl ?_ (fun W hW => ?_) ?_; rotate_left 1; · (obtain ⟨⟨f0,f1⟩,⟨f2,f3⟩,f4,f5⟩:=HF W hW; go_simp; with_reducible rfl))
 refine zaI rfl 242 #[rv (k.regs s),rv (k.regs t)] (rv ((k.regs s).minus (k.regs t))) (fun W hW => ?_) (fun W hW => (zrO _ _ W).mono (fun e w' hh => ⟨hh.1,hW.trans (hh.2.mono hW.size)⟩)) ?_
 ·go_simp
 refine wpQuiet_nil ?_
 intro W hW
 obtain ⟨c0,c1,z0,z1⟩:=hC W hW
 go_wp2
 exact zby (r:=(k.regs s).minus (k.regs t)) Tryz.results241 rfl rfl (zao c0 c1).1 (zao c0 c1).2 ⟨rfl,zas (hL W hW) (by omega)⟩
theorem zur {w : World} {b : Nat} {bv : Value} {k : Kn} (h : KnM w b bv k) (r s : Nat) (hs : s < 8) (t : Nat) (ht : t < 8) : Calls Tryz.prog 241 #[.agg #[.int .i64 (r : Int),.int .i64 (s : Int),.int .i64 (t : Int)],.pointer (some ⟨b,0,none⟩)] w fun e w' => e = .returned (rv (subR k s t)) ∧ Below w.heap.size w w':=by
 by_cases e : s = t
 ·subst e; exact zsm r s
 ·exact zp4 h r s hs t ht e
def zaW (f g : Nat → Rg) (j : Nat) : Nat → Rg:=fun i => if i < j then (f i).or (g i) else f i
theorem zhO (f g : Nat → Rg) : zaW f g 0 = f:=by funext i; simp [zaW]
theorem zl5 (f g : Nat → Rg) (j : Nat) : zaW f g j j = f j:=by simp [zaW]
theorem zhP (f g : Nat → Rg) (j : Nat) : updR (zaW f g j) j ((f j).or (g j)) = zaW f g (j + 1):=by
 funext i
 unfold updR zaW
 by_cases e : i = j
 ·subst e; rw [if_pos rfl,if_pos (by omega)]
 ·rw [if_neg e]
  by_cases e2 : i < j
  ·rw [if_pos e2,if_pos (by omega)]
  ·rw [if_neg e2,if_neg (by omega)]
theorem KnM.like {w : World} {b : Nat} {bv : Value} {k k2 : Kn} (h : KnM w b bv k) (h1 : ∀ r,r < 8 → k2.regs r = k.regs r) (h2 : ∀ c,c < 16 → k2.cells c = k.cells c) (h3 : k2.next = k.next) (h4 : k2.steps = k.steps) : KnM w b bv k2 :=
 ⟨fun r hr => by rw [h1 r hr]; exact h.cR r hr,fun c hc => by rw [h2 c hc]; exact h.cC c hc,by rw [h3]; exact h.cN,h.cB,by rw [h4]; exact h.cS,h.fz⟩
theorem zwC {w : World} {b : Nat} {bv : Value} {k o : Kn} (h : KnM w b bv { k with regs:=zaW k.regs o.regs 8,cells:=zaW k.cells o.cells 16 }) : KnM w b bv (zff k o) :=
 h.like (fun r hr => by show _ = zaW k.regs o.regs 8 r; unfold zaW; rw [if_pos hr]; rfl) (fun r hr => by show _ = zaW k.cells o.cells 16 r; unfold zaW; rw [if_pos hr]; rfl) rfl rfl
structure JnM (w wr : World) (b c : Nat) (bv cv : Value) (k o : Kn) : Prop where
 kn : KnM wr b bv k
 ot : KnM wr c cv o
 low : w.grownBy wr (some b)
theorem JnM.below {w wr wy : World} {b c : Nat} {bv cv : Value} {k o : Kn} (L : JnM w wr b c bv cv k o) (hb : Below wr.heap.size wr wy) : JnM w wy b c bv cv k o :=
 ⟨L.kn.below hb L.kn.lt,L.ot.below hb L.ot.lt,zaf L.low ⟨hb.os,hb.tape,hb.output,hb.size,fun q hq _ => hb.block q hq⟩⟩
theorem KnM.other {w : World} {b c n : Nat} {v cv : Value} {o : Kn} (h : KnM w c cv o) (hne : ¬ c = b) : KnM (w.setCell ⟨b,n,none⟩ v) c cv o:=h.block (Below.heap_setCell w _ _ c hne)
theorem JnM.putR {w wr : World} {b c : Nat} {bv cv : Value} {k o : Kn} (L : JnM w wr b c bv cv k o) (hne : ¬ c = b) (a : Nat) (ha : a < 8) (u : Rg) : JnM w ((wr.setCell ⟨b,a * 2,none⟩ (.int .i64 u.lo)).setCell ⟨b,a * 2 + 1,none⟩ (.int .i64 u.hi)) b c bv cv { k with regs:=updR k.regs a u } o :=
 ⟨L.kn.putR a ha u,(L.ot.other hne).other hne,zaf L.low (zaf (zae (Below.refl _ _)) (zae (Below.refl _ _)))⟩
theorem JnM.putC {w wr : World} {b c : Nat} {bv cv : Value} {k o : Kn} (L : JnM w wr b c bv cv k o) (hne : ¬ c = b) (a : Nat) (ha : a < 16) (u : Rg) : JnM w ((wr.setCell ⟨b,16 + a * 2,none⟩ (.int .i64 u.lo)).setCell ⟨b,16 + a * 2 + 1,none⟩ (.int .i64 u.hi)) b c bv cv { k with cells:=updR k.cells a u } o :=
 ⟨L.kn.putC a ha u,(L.ot.other hne).other hne,zaf L.low (zaf (zae (Below.refl _ _)) (zae (Below.refl _ _)))⟩
theorem zeG {w wx : World} {cs : Array Value} {t : TypeId} (hbx : Below (w.alloc (.cells cs t)).heap.size (w.alloc (.cells cs t)) wx) (j : Nat) : wx.cell? ⟨w.heap.size,j,none⟩ = cs[j]? :=
 (World.cell?_of_block (a:=⟨w.heap.size,j,none⟩) (hbx.block w.heap.size (by simp))).trans (World.cell?_alloc_new _ _ _ j)
theorem Tryz.size214 : (Tryz.prog.info? 214).map (·.size) = some 16:=by kernel_rfl
theorem Tryz.size215 : (Tryz.prog.info? 215).map (·.size) = some 32:=by kernel_rfl
theorem Tryz.row214 : Tryz.prog.underlying 214 = some (.array 8 213):=by kernel_rfl
theorem Tryz.row215 : Tryz.prog.underlying 215 = some (.array 16 213):=by kernel_rfl
theorem zsy {w : World} {b c : Nat} {bv cv : Value} {k o : Kn} (h : KnM w b bv k) (h2 : KnM w c cv o) (hne : ¬ c = b) : Calls Tryz.prog 142 #[.pointer (some ⟨b,0,none⟩),.pointer (some ⟨c,0,none⟩)] w (zlk w b bv (zff k o)):=by
 have hr:=h2.rowR
 have L0 : JnM w w b c bv cv { k with regs:=zaW k.regs o.regs 0 } o:=by rw [zhO]; exact ⟨h,h2,⟨rfl,rfl,rfl,Nat.le_refl _,fun _ _ _ => rfl⟩⟩
 have hi1 : (Tryz.prog.info? 214).map (·.size) = some (rgs o.regs 8).length:=by rw [zd2]; exact Tryz.size214
 have hx:=fun r hr W => znP Tryz.row214 o.regs r hr W
 generalize rgs o.regs 8 = cs at hr hi1 hx
 go_enter Tryz.func142,Tryz.ntmps142
 go_wp2_with (first | (refine wpList_load_mid rfl 214 _ rfl c 0 rfl cs _ hr Tryz.row214 rfl hi1 ?_))
 go_loopw [12] (fun ti wr => ∃ j : Nat,j ≤ 8 ∧ ti = .int .i64 (j : Int) ∧ JnM w wr b c bv cv { k with regs:=zaW k.regs o.regs j } o) (fun ti _ => 8 - (intOf ti).toNat)
 case atStart => exact ⟨0,by omega,rfl,L0⟩
 case round =>
  obtain ⟨j,hj,rfl,L⟩:=hrel
  by_cases hjn : j < 8
  ·have hxj:=hx j hjn
   have hj0 : (0 : Int) ≤ (j : Int):=by omega
   have hj1 : (j : Int) < 8:=by omega
   have LK:=L.kn.cR j hjn
   have e0 : zaW k.regs o.regs j j = k.regs j:=zl5 _ _ _
   obtain ⟨A,hA⟩ : ∃ A,wr.alloc (.cells #[.int .i64 (o.regs j).lo,.int .i64 (o.regs j).hi] 213) = A:=⟨_,rfl⟩
   have HL : ∀ W,Below A.heap.size A W → Below wr.heap.size wr W:=fun W hW => by subst hA; exact box1.trans (hW.mono (by simp))
   have HB : ∀ W,Below A.heap.size A W → JnM w W b c bv cv { k with regs:=zaW k.regs o.regs j } o:=fun W hW => L.below (HL W hW)
   have HF : ∀ W,Below A.heap.size A W → (W.cell? ⟨wr.heap.size,0,none⟩ = some (.int .i64 (o.regs j).lo) ∧ W.cell? ⟨wr.heap.size,1,none⟩ = some (.int .i64 (o.regs j).hi)) ∧ (W.cell? ⟨b,j * 2,none⟩ = some (.int .i64 (k.regs j).lo) ∧ W.cell? ⟨b,j * 2 + 1,none⟩ = some (.int .i64 (k.regs j).hi)):=fun W hW => by
    have t:=(HB W hW).kn.cR j hjn
    rw [show ({ k with regs:=zaW k.regs o.regs j } : Kn).regs j = k.regs j from e0] at t
    exact ⟨by subst hA; exact ⟨zeG hW 0,zeG hW 1⟩,t⟩
   go_wp2
   refine zad 12 (fun W => Below A.heap.size A W) (Below.refl _ _).drew (by kernel_rfl) (by kernel_rfl) ?_
   simp only [List.take_succ_cons,List.take_zero,List.drop_succ_cons,List.drop_zero]
   repeat (refine zab rfl ?_ (fun W hW => ?_) ?_; rotate_left 1; · (obtain ⟨⟨f0,f1⟩,f2,f3⟩:=HF W hW; go_simp; with_reducible rfl))
   refine zaI rfl 156 #[rv (k.regs j),rv (o.regs j)] (rv ((k.regs j).or (o.regs j))) (fun W hW => ?_) (fun W hW => (znG _ _ W).mono (fun e w' hh => ⟨hh.1,hW.trans (hh.2.mono hW.size)⟩)) ?_
   ·go_simp
   repeat (refine zab rfl ?_ (fun W hW => ?_) ?_; rotate_left 1; · (obtain ⟨⟨f0,f1⟩,f2,f3⟩:=HF W hW; go_simp; with_reducible rfl))
   refine wpQuiet_nil ?_
   intro W hW
   have LW:=HB W hW
   obtain ⟨_,c0,c1⟩:=HF W hW
   have z0:=LW.kn.fz (j * 2)
   have z1:=LW.kn.fz (j * 2 + 1)
   have LP:=LW.putR hne j hjn ((k.regs j).or (o.regs j))
   have LQ : JnM w ((W.setCell ⟨b,j * 2,none⟩ (.int .i64 ((k.regs j).or (o.regs j)).lo)).setCell ⟨b,j * 2 + 1,none⟩ (.int .i64 ((k.regs j).or (o.regs j)).hi)) b c bv cv { k with regs:=zaW k.regs o.regs (j + 1) } o:=by
    have e : updR (zaW k.regs o.regs j) j ((k.regs j).or (o.regs j)) = zaW k.regs o.regs (j + 1):=zhP _ _ _
    rw [← e]
    exact LP
   clear LP LW
   go_wp2
   exact ⟨⟨j + 1,by omega,by go_num,LQ⟩,by simp [intOf]; omega⟩
  ·obtain rfl : j = 8:=by omega
   have hr2:=L.ot.rowC
   have L2 : JnM w wr b c bv cv { k with regs:=zaW k.regs o.regs 8,cells:=zaW k.cells o.cells 0 } o:=by rw [zhO]; exact L
   have hi2 : (Tryz.prog.info? 215).map (·.size) = some (rgs o.cells 16).length:=by rw [zd2]; exact Tryz.size215
   have hx2:=fun r hr W => znP Tryz.row215 o.cells r hr W
   generalize rgs o.cells 16 = ds at hr2 hi2 hx2
   clear L L0
   go_wp2_with (first | (refine wpList_load_mid rfl 215 _ rfl c 16 rfl ds _ hr2 Tryz.row215 rfl hi2 ?_))
   go_loopw [34] (fun ti wr => ∃ j : Nat,j ≤ 16 ∧ ti = .int .i64 (j : Int) ∧ JnM w wr b c bv cv { k with regs:=zaW k.regs o.regs 8,cells:=zaW k.cells o.cells j } o) (fun ti _ => 16 - (intOf ti).toNat)
   case atStart => exact ⟨0,by omega,rfl,L2⟩
   case round =>
    obtain ⟨j,hj,rfl,L⟩:=hrel
    by_cases hjn : j < 16
    ·have hxj:=hx2 j hjn
     have hj0 : (0 : Int) ≤ (j : Int):=by omega
     have hj1 : (j : Int) < 16:=by omega
     have LK:=L.kn.cC j hjn
     have e0 : zaW k.cells o.cells j j = k.cells j:=zl5 _ _ _
     obtain ⟨A,hA⟩ : ∃ A,wr.alloc (.cells #[.int .i64 (o.cells j).lo,.int .i64 (o.cells j).hi] 213) = A:=⟨_,rfl⟩
     have HL : ∀ W,Below A.heap.size A W → Below wr.heap.size wr W:=fun W hW => by subst hA; exact box1.trans (hW.mono (by simp))
     have HB : ∀ W,Below A.heap.size A W → JnM w W b c bv cv { k with regs:=zaW k.regs o.regs 8,cells:=zaW k.cells o.cells j } o:=fun W hW => L.below (HL W hW)
     have HF : ∀ W,Below A.heap.size A W → (W.cell? ⟨wr.heap.size,0,none⟩ = some (.int .i64 (o.cells j).lo) ∧ W.cell? ⟨wr.heap.size,1,none⟩ = some (.int .i64 (o.cells j).hi)) ∧ (W.cell? ⟨b,16 + j * 2,none⟩ = some (.int .i64 (k.cells j).lo) ∧ W.cell? ⟨b,16 + j * 2 + 1,none⟩ = some (.int .i64 (k.cells j).hi)):=fun W hW => by
      have t:=(HB W hW).kn.cC j hjn
      rw [show ({ k with regs:=zaW k.regs o.regs 8,cells:=zaW k.cells o.cells j } : Kn).cells j = k.cells j from e0] at t
      exact ⟨by subst hA; exact ⟨zeG hW 0,zeG hW 1⟩,t⟩
     go_wp2
     refine zad 12 (fun W => Below A.heap.size A W) (Below.refl _ _).drew (by kernel_rfl) (by kernel_rfl) ?_
     simp only [List.take_succ_cons,List.take_zero,List.drop_succ_cons,List.drop_zero]
     repeat (refine zab rfl ?_ (fun W hW => ?_) ?_; rotate_left 1; · (obtain ⟨⟨f0,f1⟩,f2,f3⟩:=HF W hW; go_simp; with_reducible rfl))
     refine zaI rfl 156 #[rv (k.cells j),rv (o.cells j)] (rv ((k.cells j).or (o.cells j))) (fun W hW => ?_) (fun W hW => (znG _ _ W).mono (fun e w' hh => ⟨hh.1,hW.trans (hh.2.mono hW.size)⟩)) ?_
     ·go_simp
     repeat (refine zab rfl ?_ (fun W hW => ?_) ?_; rotate_left 1; · (obtain ⟨⟨f0,f1⟩,f2,f3⟩:=HF W hW; go_simp; with_reducible rfl))
     refine wpQuiet_nil ?_
     intro W hW
     have LW:=HB W hW
     obtain ⟨_,c0,c1⟩:=HF W hW
     have z0:=LW.kn.fz (16 + j * 2)
     have z1:=LW.kn.fz (16 + j * 2 + 1)
     have LP:=LW.putC hne j hjn ((k.cells j).or (o.cells j))
     have LQ : JnM w ((W.setCell ⟨b,16 + j * 2,none⟩ (.int .i64 ((k.cells j).or (o.cells j)).lo)).setCell ⟨b,16 + j * 2 + 1,none⟩ (.int .i64 ((k.cells j).or (o.cells j)).hi)) b c bv cv { k with regs:=zaW k.regs o.regs 8,cells:=zaW k.cells o.cells (j + 1) } o:=by
      have e : updR (zaW k.cells o.cells j) j ((k.cells j).or (o.cells j)) = zaW k.cells o.cells (j + 1):=zhP _ _ _
      rw [← e]
      exact LP
     clear LP LW
     go_wp2
     exact ⟨⟨j + 1,by omega,by go_num,LQ⟩,by simp [intOf]; omega⟩
    ·obtain rfl : j = 16:=by omega
     go_wp2
     refine bodyPost_end (results_none rfl _ _ _) rfl ⟨rfl,zwC L.kn,L.low⟩
theorem zh9 (w : World) (r o : Rg) : TimesAt w ((((w.alloc (.cells #[.int .i64 r.lo,.int .i64 r.hi] 213)).alloc (.cells #[.int .i64 o.lo,.int .i64 o.hi] 213)).alloc (.cells #[.int .i64 0,.int .i64 0] 213)).alloc (.cells #[.int .i64 0,.int .i64 0,.int .i64 0,.int .i64 0] 304)) r o 0:=by
 have hs : ((((w.alloc (.cells #[.int .i64 r.lo,.int .i64 r.hi] 213)).alloc (.cells #[.int .i64 o.lo,.int .i64 o.hi] 213)).alloc (.cells #[.int .i64 0,.int .i64 0] 213)).alloc (.cells #[.int .i64 0,.int .i64 0,.int .i64 0,.int .i64 0] 304)).heap.size = w.heap.size + 1 + 1 + 1 + 1:=by simp
 refine ⟨fun j hj => ?_,fun j => World.frozen?_alloc_at _ _ _ _ (by simp),fun j hj => ?_,fun j => (World.frozen?_alloc_past _ _ _ (by simp)).trans (zeD _ _ _ _ _ j),zbz,by omega,fun j hj => by omega⟩
 ·rw [if_neg (by omega),zay]
  match j,hj with
  | 0,_ => rfl
  | 1,_ => rfl
  | 2,_ => rfl
  | 3,_ => rfl
 ·rw [za7]
  match j,hj with
  | 0,_ => rfl
  | 1,_ => rfl
theorem zbt {w w' : World} (hb : Below w.heap.size w w') {b j : Nat} (hlt : b < w.heap.size) (h : w.frozen? ⟨b,j,none⟩ = false) : w'.frozen? ⟨b,j,none⟩ = false:=(World.frozen?_of_block (w:=w) (a:=⟨b,j,none⟩) (hb.block b hlt)).trans h
theorem ziR (x0 x1 x2 x3 x4 x5 x6 x7 : Int) (W : World) : (Instr.index 306 (.agg #[.int .i64 x0,.int .i64 x1,.int .i64 x2,.int .i64 x3,.int .i64 x4,.int .i64 x5,.int .i64 x6,.int .i64 x7]) (.int .i64 0)).run Tryz.prog W = .ok (.agg #[.int .i64 x0,.int .i64 x1]) W:=by kernel_rfl
theorem ziS (x0 x1 x2 x3 x4 x5 x6 x7 : Int) (W : World) : (Instr.index 306 (.agg #[.int .i64 x0,.int .i64 x1,.int .i64 x2,.int .i64 x3,.int .i64 x4,.int .i64 x5,.int .i64 x6,.int .i64 x7]) (.int .i64 1)).run Tryz.prog W = .ok (.agg #[.int .i64 x2,.int .i64 x3]) W:=by kernel_rfl
theorem ziT (x0 x1 x2 x3 x4 x5 x6 x7 : Int) (W : World) : (Instr.index 306 (.agg #[.int .i64 x0,.int .i64 x1,.int .i64 x2,.int .i64 x3,.int .i64 x4,.int .i64 x5,.int .i64 x6,.int .i64 x7]) (.int .i64 2)).run Tryz.prog W = .ok (.agg #[.int .i64 x4,.int .i64 x5]) W:=by kernel_rfl
theorem ziU (x0 x1 x2 x3 x4 x5 x6 x7 : Int) (W : World) : (Instr.index 306 (.agg #[.int .i64 x0,.int .i64 x1,.int .i64 x2,.int .i64 x3,.int .i64 x4,.int .i64 x5,.int .i64 x6,.int .i64 x7]) (.int .i64 3)).run Tryz.prog W = .ok (.agg #[.int .i64 x6,.int .i64 x7]) W:=by kernel_rfl
theorem zvR (a b c d : Int) (w : World) (hr : (⟨a,b⟩ : Rg).Ok) (ho : (⟨c,d⟩ : Rg).Ok) (hne : ¬ a = b) : Calls Tryz.prog 245 #[rv (⟨a,b⟩ : Rg),rv (⟨c,d⟩ : Rg)] w fun e w' => e = .returned (rv ((⟨a,b⟩ : Rg).times (⟨c,d⟩ : Rg))) ∧ Below w.heap.size w w':=by
 have hn1 : ¬ ((⟨a,b⟩ : Rg).lo = (⟨a,b⟩ : Rg).hi ∧ (⟨c,d⟩ : Rg).lo = (⟨c,d⟩ : Rg).hi):=fun h => hne h.1
 have Z0:=zh9 w (⟨a,b⟩ : Rg) (⟨c,d⟩ : Rg)
 have hb5 : ∀ a b W,(Instr.build 305 #[(0,.int .i64 a),(1,.int .i64 b)]).run Tryz.prog W = .ok (.agg #[.int .i64 a,.int .i64 b]) W:=fun a b W => run_build W 305 _ _ (by kernel_rfl)
 have hb6 : ∀ a b c d W,(Instr.build 306 #[(0,.agg #[.int .i64 a,.int .i64 b]),(1,.agg #[.int .i64 a,.int .i64 d]),(2,.agg #[.int .i64 c,.int .i64 b]),(3,.agg #[.int .i64 c,.int .i64 d])]).run Tryz.prog W = .ok (.agg #[.int .i64 a,.int .i64 b,.int .i64 a,.int .i64 d,.int .i64 c,.int .i64 b,.int .i64 c,.int .i64 d]) W:=fun a b c d W => run_build W 306 _ _ (by kernel_rfl)
 have hx0:=ziR
 have hx1:=ziS
 have hx2:=ziT
 have hx3:=ziU
 have t1 : (a == b) = false:=by simpa using hne
 go_enter Tryz.func245,Tryz.ntmps245
 go_wp2
 change TimesAt w ((((w.alloc (.cells #[.int .i64 a,.int .i64 b] 213)).alloc (.cells #[.int .i64 c,.int .i64 d] 213)).alloc (.cells #[.int .i64 0,.int .i64 0] 213)).alloc (.cells #[.int .i64 0,.int .i64 0,.int .i64 0,.int .i64 0] 304)) _ _ _ at Z0
 generalize (((w.alloc (.cells #[.int .i64 a,.int .i64 b] 213)).alloc (.cells #[.int .i64 c,.int .i64 d] 213)).alloc (.cells #[.int .i64 0,.int .i64 0] 213)).alloc (.cells #[.int .i64 0,.int .i64 0,.int .i64 0,.int .i64 0] 304) = Ws at Z0
 go_loopw [47] (fun ti wr => ∃ k : Nat,k ≤ 4 ∧ ti = .int .i64 (k : Int) ∧ TimesAt w wr (⟨a,b⟩ : Rg) (⟨c,d⟩ : Rg) k) (fun ti _ => 4 - (intOf ti).toNat)
 case atStart => exact ⟨0,by omega,rfl,Z0⟩
 case round =>
  obtain ⟨k,hk,rfl,Z⟩:=hrel
  by_cases hlt : k < 4
  ·have hcase : k = 0 ∨ k = 1 ∨ k = 2 ∨ k = 3:=by omega
   have hany:=zh7
   rcases hcase with rfl | rfl | rfl | rfl
   ·have hwr:=fun W => zda a c W
    have Z1:=Z.alloc (.cells #[.int .i64 a,.int .i64 c] 305)
    have cc:=Z1.cells 0 (by omega)
    have cf:=Z1.fz 0
    cases hwq : zbx a c with
    | true =>
     have e0:=zbV (r:=(⟨a,b⟩ : Rg)) (o:=(⟨c,d⟩ : Rg)) hn1 (k:=0) (by omega) hwq
     rw [hwq] at hwr
     have r0:=Z1.res 0 (by omega)
     have r1:=Z1.res 1 (by omega)
     have z0:=Z1.rz 0
     have z1:=Z1.rz 1
     have hlw:=Z1.low
     have hsz:=Z1.size
     clear Z Z1 cc cf
     go_wp2_with (first | (go_at_call 246; (with_reducible refine (hwr _).mono ?_); rintro e wx ⟨rfl,hww⟩; have h2:=hww.symm; subst h2) | (go_at_call 238; (with_reducible refine (hany _).mono ?_); rintro e w4 ⟨rfl,hb4⟩; have d0:=zaC hb4 r0; have d1:=zaC hb4 r1; have g0:=zbt hb4 (by omega) z0; have g1:=zbt hb4 (by omega) z1))
     exact zby (r:=anyR) Tryz.results245 rfl rfl (zao d0 d1).1 (zao d0 d1).2 ⟨by rw [e0],zas (hlw.trans (hb4.mono hlw.size)) (by omega)⟩
    | false =>
     rw [hwq] at hwr
     have Z2:=Z1.put (by omega) hwq
     clear Z
     go_wp2_with (go_at_call 246; (with_reducible refine (hwr _).mono ?_); rintro e wx ⟨rfl,hww⟩; have h2:=hww.symm; subst h2)
     go_roundw
     case rel => exact ⟨1,by omega,rfl,Z2⟩
     case measure => simp [intOf]
   ·have hwr:=fun W => zda a d W
    have Z1:=Z.alloc (.cells #[.int .i64 a,.int .i64 d] 305)
    have cc:=Z1.cells 1 (by omega)
    have cf:=Z1.fz 1
    cases hwq : zbx a d with
    | true =>
     have e0:=zbV (r:=(⟨a,b⟩ : Rg)) (o:=(⟨c,d⟩ : Rg)) hn1 (k:=1) (by omega) hwq
     rw [hwq] at hwr
     have r0:=Z1.res 0 (by omega)
     have r1:=Z1.res 1 (by omega)
     have z0:=Z1.rz 0
     have z1:=Z1.rz 1
     have hlw:=Z1.low
     have hsz:=Z1.size
     clear Z Z1 cc cf
     go_wp2_with (first | (go_at_call 246; (with_reducible refine (hwr _).mono ?_); rintro e wx ⟨rfl,hww⟩; have h2:=hww.symm; subst h2) | (go_at_call 238; (with_reducible refine (hany _).mono ?_); rintro e w4 ⟨rfl,hb4⟩; have d0:=zaC hb4 r0; have d1:=zaC hb4 r1; have g0:=zbt hb4 (by omega) z0; have g1:=zbt hb4 (by omega) z1))
     exact zby (r:=anyR) Tryz.results245 rfl rfl (zao d0 d1).1 (zao d0 d1).2 ⟨by rw [e0],zas (hlw.trans (hb4.mono hlw.size)) (by omega)⟩
    | false =>
     rw [hwq] at hwr
     have Z2:=Z1.put (by omega) hwq
     clear Z
     go_wp2_with (go_at_call 246; (with_reducible refine (hwr _).mono ?_); rintro e wx ⟨rfl,hww⟩; have h2:=hww.symm; subst h2)
     go_roundw
     case rel => exact ⟨2,by omega,rfl,Z2⟩
     case measure => simp [intOf]
   ·have hwr:=fun W => zda b c W
    have Z1:=Z.alloc (.cells #[.int .i64 b,.int .i64 c] 305)
    have cc:=Z1.cells 2 (by omega)
    have cf:=Z1.fz 2
    cases hwq : zbx b c with
    | true =>
     have e0:=zbV (r:=(⟨a,b⟩ : Rg)) (o:=(⟨c,d⟩ : Rg)) hn1 (k:=2) (by omega) hwq
     rw [hwq] at hwr
     have r0:=Z1.res 0 (by omega)
     have r1:=Z1.res 1 (by omega)
     have z0:=Z1.rz 0
     have z1:=Z1.rz 1
     have hlw:=Z1.low
     have hsz:=Z1.size
     clear Z Z1 cc cf
     go_wp2_with (first | (go_at_call 246; (with_reducible refine (hwr _).mono ?_); rintro e wx ⟨rfl,hww⟩; have h2:=hww.symm; subst h2) | (go_at_call 238; (with_reducible refine (hany _).mono ?_); rintro e w4 ⟨rfl,hb4⟩; have d0:=zaC hb4 r0; have d1:=zaC hb4 r1; have g0:=zbt hb4 (by omega) z0; have g1:=zbt hb4 (by omega) z1))
     exact zby (r:=anyR) Tryz.results245 rfl rfl (zao d0 d1).1 (zao d0 d1).2 ⟨by rw [e0],zas (hlw.trans (hb4.mono hlw.size)) (by omega)⟩
    | false =>
     rw [hwq] at hwr
     have Z2:=Z1.put (by omega) hwq
     clear Z
     go_wp2_with (go_at_call 246; (with_reducible refine (hwr _).mono ?_); rintro e wx ⟨rfl,hww⟩; have h2:=hww.symm; subst h2)
     go_roundw
     case rel => exact ⟨3,by omega,rfl,Z2⟩
     case measure => simp [intOf]
   ·have hwr:=fun W => zda b d W
    have Z1:=Z.alloc (.cells #[.int .i64 b,.int .i64 d] 305)
    have cc:=Z1.cells 3 (by omega)
    have cf:=Z1.fz 3
    cases hwq : zbx b d with
    | true =>
     have e0:=zbV (r:=(⟨a,b⟩ : Rg)) (o:=(⟨c,d⟩ : Rg)) hn1 (k:=3) (by omega) hwq
     rw [hwq] at hwr
     have r0:=Z1.res 0 (by omega)
     have r1:=Z1.res 1 (by omega)
     have z0:=Z1.rz 0
     have z1:=Z1.rz 1
     have hlw:=Z1.low
     have hsz:=Z1.size
     clear Z Z1 cc cf
     go_wp2_with (first | (go_at_call 246; (with_reducible refine (hwr _).mono ?_); rintro e wx ⟨rfl,hww⟩; have h2:=hww.symm; subst h2) | (go_at_call 238; (with_reducible refine (hany _).mono ?_); rintro e w4 ⟨rfl,hb4⟩; have d0:=zaC hb4 r0; have d1:=zaC hb4 r1; have g0:=zbt hb4 (by omega) z0; have g1:=zbt hb4 (by omega) z1))
     exact zby (r:=anyR) Tryz.results245 rfl rfl (zao d0 d1).1 (zao d0 d1).2 ⟨by rw [e0],zas (hlw.trans (hb4.mono hlw.size)) (by omega)⟩
    | false =>
     rw [hwq] at hwr
     have Z2:=Z1.put (by omega) hwq
     clear Z
     go_wp2_with (go_at_call 246; (with_reducible refine (hwr _).mono ?_); rintro e wx ⟨rfl,hww⟩; have h2:=hww.symm; subst h2)
     go_roundw
     case rel => exact ⟨4,by omega,rfl,Z2⟩
     case measure => simp [intOf]
  ·obtain rfl : k = 4:=by omega
   have e0:=zh8 hr ho hn1 Z.no
   have q0 : wr.cell? ⟨w.heap.size + 1 + 1 + 1,0,none⟩ = some (.int .i64 (wrap64 (a * c))):=Z.cells 0 (by omega)
   have q1 : wr.cell? ⟨w.heap.size + 1 + 1 + 1,1,none⟩ = some (.int .i64 (wrap64 (a * d))):=Z.cells 1 (by omega)
   have q2 : wr.cell? ⟨w.heap.size + 1 + 1 + 1,2,none⟩ = some (.int .i64 (wrap64 (b * c))):=Z.cells 2 (by omega)
   have q3 : wr.cell? ⟨w.heap.size + 1 + 1 + 1,3,none⟩ = some (.int .i64 (wrap64 (b * d))):=Z.cells 3 (by omega)
   have hcs : ∀ j (h : j < [wrap64 (a * c),wrap64 (a * d),wrap64 (b * c),wrap64 (b * d)].length),wr.cell? ⟨w.heap.size + 1 + 1 + 1,j,none⟩ = some (.int .i64 [wrap64 (a * c),wrap64 (a * d),wrap64 (b * c),wrap64 (b * d)][j]):=fun j hj => by
    match j,hj with
    | 0,_ => exact q0
    | 1,_ => exact q1
    | 2,_ => exact q2
    | 3,_ => exact q3
   have hmin : Calls Tryz.prog 247 #[.slice (some ⟨w.heap.size + 1 + 1 + 1,0,none⟩) 4 4] wr.drew fun e w' => e = .returned (.int .i64 (zfg [wrap64 (a * c),wrap64 (a * d),wrap64 (b * c),wrap64 (b * d)] 3)) ∧ w' = wr.drew:=znJ wr.drew (w.heap.size + 1 + 1 + 1) 4 [wrap64 (a * c),wrap64 (a * d),wrap64 (b * c),wrap64 (b * d)] (by simp) (by simp) hcs
   have hmax : Calls Tryz.prog 248 #[.slice (some ⟨w.heap.size + 1 + 1 + 1,0,none⟩) 4 4] wr.drew fun e w' => e = .returned (.int .i64 (zfh [wrap64 (a * c),wrap64 (a * d),wrap64 (b * c),wrap64 (b * d)] 3)) ∧ w' = wr.drew:=znK wr.drew (w.heap.size + 1 + 1 + 1) 4 [wrap64 (a * c),wrap64 (a * d),wrap64 (b * c),wrap64 (b * d)] (by simp) (by simp) hcs
   have r0:=Z.res 0 (by omega)
   have r1:=Z.res 1 (by omega)
   have z0:=Z.rz 0
   have z1:=Z.rz 1
   have hlw:=Z.low
   have hbd:=zcb (zfg [wrap64 (a * c),wrap64 (a * d),wrap64 (b * c),wrap64 (b * d)] 3) (zfh [wrap64 (a * c),wrap64 (a * d),wrap64 (b * c),wrap64 (b * d)] 3)
   clear Z hcs q0 q1 q2 q3
   generalize zfg [wrap64 (a * c),wrap64 (a * d),wrap64 (b * c),wrap64 (b * d)] 3 = x at hmin hbd e0
   generalize zfh [wrap64 (a * c),wrap64 (a * d),wrap64 (b * c),wrap64 (b * d)] 3 = y at hmax hbd e0
   go_wp2
   go_region_held3 (fun _ => True)
    (trivial)
    (first | (go_at_call 247; (with_reducible refine hmin.mono ?_); rintro e wx ⟨rfl,hww⟩; have h2:=hww.symm; subst h2) | (go_at_call 248; (with_reducible refine hmax.mono ?_); rintro e wx ⟨rfl,hww⟩; have h2:=hww.symm; subst h2))
   go_wp2
   exact zby (r:=⟨x,y⟩) Tryz.results245 rfl rfl (zao (X:=wr.drew) r0 r1).1 (zao (X:=wr.drew) r0 r1).2 ⟨by rw [e0],zas hlw.drew (by omega)⟩
end Go.Proofs.YtfpgjkbjbbgciaaGreatDoor
