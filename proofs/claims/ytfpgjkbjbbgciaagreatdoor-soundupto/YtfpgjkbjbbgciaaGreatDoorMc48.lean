import Derived.Test.YtfpgjkbjbbgciaaGreatDoorMc42
import Derived.Test.YtfpgjkbjbbgciaaGreatDoorMc44
import Derived.Test.YtfpgjkbjbbgciaaGreatDoorMc46
import Derived.Test.YtfpgjkbjbbgciaaGreatDoorMc47
set_option maxRecDepth 100000
set_option maxHeartbeats 8000000
namespace Go.Proofs.YtfpgjkbjbbgciaaGreatDoor
open Go.RowKit Sp
theorem zsn {w : World} {b : Nat} {bv : Value} {k : Kn} (h : KnM w b bv k) (r : Nat) (hr : r < 8) (s : Nat) (hs : s < 8) (t : Nat) (ht : t < 8) (h0 : 0 ≤ k.steps) (h1 : k.steps ≤ 100000) (n0 : 0 ≤ k.next) (n1 : k.next ≤ 100000) :
  Calls Tryz.prog 240 #[.agg #[.int .i64 (r : Int),.int .i64 (s : Int),.int .i64 (t : Int)],.pointer (some ⟨b,0,none⟩)] w (zaN w b bv ({ k with regs:=updR k.regs r (subR k s t) }.goTo (k.next + 1))):=by
 have hlt:=h.lt
 have r0 : (0 : Int) ≤ (r : Int):=by omega
 have r1 : (r : Int) < 8:=by omega
 have s0 : (0 : Int) ≤ (s : Int):=by omega
 have s1 : (s : Int) < 8:=by omega
 have t0 : (0 : Int) ≤ (t : Int):=by omega
 have t1 : (t : Int) < 8:=by omega
 obtain ⟨A,hA⟩ : ∃ A,w.alloc (.cells #[.int .i64 (r : Int),.int .i64 (s : Int),.int .i64 (t : Int)] 172) = A:=⟨_,rfl⟩
 have HB : ∀ W,Below A.heap.size A W → KnM W b bv k:=fun W hW => by subst hA; exact (h.alloc _).below hW (by simp; omega)
 have HF : ∀ W,Below A.heap.size A W → (W.cell? ⟨w.heap.size,0,none⟩ = some (.int .i64 (r : Int)) ∧ W.cell? ⟨w.heap.size,1,none⟩ = some (.int .i64 (s : Int)) ∧ W.cell? ⟨w.heap.size,2,none⟩ = some (.int .i64 (t : Int))) ∧ (W.cell? ⟨b,s * 2,none⟩ = some (.int .i64 (k.regs s).lo) ∧ W.cell? ⟨b,s * 2 + 1,none⟩ = some (.int .i64 (k.regs s).hi)) ∧ (W.cell? ⟨b,t * 2,none⟩ = some (.int .i64 (k.regs t).lo) ∧ W.cell? ⟨b,t * 2 + 1,none⟩ = some (.int .i64 (k.regs t).hi)):=fun W hW => ⟨by subst hA; exact ⟨za2 hW 0,za2 hW 1,za2 hW 2⟩,(HB W hW).cR s hs,(HB W hW).cR t ht⟩
 go_enter Tryz.func240,Tryz.ntmps240
 go_wp2
 refine zad 8 (fun W => Below A.heap.size A W) (Below.refl _ _).drew (by kernel_rfl) (by kernel_rfl) ?_
 simp only [List.take_succ_cons,List.take_zero,List.drop_succ_cons,List.drop_zero]
 repeat (refine zab rfl ?_ (fun W hW => ?_) ?_; rotate_left 1; · (obtain ⟨⟨f0,f1,f2⟩,⟨gs,es⟩,⟨gt,et⟩⟩:=HF W hW; go_simp; with_reducible rfl))
 refine zaI rfl 241 #[.agg #[.int .i64 (r : Int),.int .i64 (s : Int),.int .i64 (t : Int)],.pointer (some ⟨b,0,none⟩)] (rv (subR k s t)) (fun W hW => ?_) (fun W hW => (zur (HB W hW) r s hs t ht).mono (fun e w' hh => ⟨hh.1,hW.trans (hh.2.mono hW.size)⟩)) ?_
 ·go_simp
 repeat (refine zab rfl ?_ (fun W hW => ?_) ?_; rotate_left 1; · (obtain ⟨⟨f0,f1,f2⟩,⟨gs,es⟩,⟨gt,et⟩⟩:=HF W hW; go_simp; with_reducible rfl))
 refine wpQuiet_nil ?_
 intro W hW
 have hK:=HB W hW
 have c0:=(hK.cR r hr).1
 have c1:=(hK.cR r hr).2
 have z0:=hK.fz (r * 2)
 have z1:=hK.fz (r * 2 + 1)
 have hKK:=hK.putR r hr (subR k s t)
 go_wp2_with (go_at_call 227; (with_reducible refine (zcc hKK h0 h1 n0 n1).mono ?_); intro e w6 hw6; have hw7:=zex (hA ▸ hW) hw6; clear hw6; obtain ⟨g,rfl,hg,hc,hk,hgr⟩:=hw7)
 go_ret
 exact ⟨g,rfl,hg,hc,hk,hgr⟩
theorem zp5 {w : World} {b : Nat} {bv : Value} {k : Kn} (h : KnM w b bv k) (r : Nat) (hr : r < 8) (s : Nat) (hs : s < 8) (hle : (k.regs s).lo ≤ (k.regs s).hi) (q0 : 0 ≤ (k.regs s).lo) (q1 : (k.regs s).hi ≤ 15) (h0 : 0 ≤ k.steps) (h1 : k.steps ≤ 100000) (n0 : 0 ≤ k.next) (n1 : k.next ≤ 100000) :
  Calls Tryz.prog 252 #[.agg #[.int .i64 (r : Int),.int .i64 (s : Int)],.pointer (some ⟨b,0,none⟩)] w (zaN w b bv ({ k with regs:=updR k.regs r (zcf k.cells (k.regs s).lo.toNat ((k.regs s).hi.toNat - (k.regs s).lo.toNat)) }.goTo (k.next + 1))):=by
 have hlt:=h.lt
 have r0 : (0 : Int) ≤ (r : Int):=by omega
 have r1 : (r : Int) < 8:=by omega
 have s0 : (0 : Int) ≤ (s : Int):=by omega
 have s1 : (s : Int) < 8:=by omega
 obtain ⟨A,hA⟩ : ∃ A,w.alloc (.cells #[.int .i64 (r : Int),.int .i64 (s : Int)] 176) = A:=⟨_,rfl⟩
 have HB : ∀ W,Below A.heap.size A W → KnM W b bv k:=fun W hW => by subst hA; exact (h.alloc _).below hW (by simp; omega)
 have HF : ∀ W,Below A.heap.size A W → (W.cell? ⟨w.heap.size,0,none⟩ = some (.int .i64 (r : Int)) ∧ W.cell? ⟨w.heap.size,1,none⟩ = some (.int .i64 (s : Int))) ∧ (W.cell? ⟨b,s * 2,none⟩ = some (.int .i64 (k.regs s).lo) ∧ W.cell? ⟨b,s * 2 + 1,none⟩ = some (.int .i64 (k.regs s).hi)):=fun W hW => ⟨by subst hA; exact ⟨za2 hW 0,za2 hW 1⟩,(HB W hW).cR s hs⟩
 go_enter Tryz.func252,Tryz.ntmps252
 go_wp2
 refine zad 14 (fun W => Below A.heap.size A W) (Below.refl _ _).drew (by kernel_rfl) (by kernel_rfl) ?_
 simp only [List.take_succ_cons,List.take_zero,List.drop_succ_cons,List.drop_zero]
 repeat (refine zab rfl ?_ (fun W hW => ?_) ?_; rotate_left 1; · (obtain ⟨⟨f0,f1⟩,⟨gs,es⟩⟩:=HF W hW; go_simp; with_reducible rfl))
 refine zaI rfl 254 #[.pointer (some ⟨b,0,none⟩),rv (k.regs s)] (rv (zcf k.cells (k.regs s).lo.toNat ((k.regs s).hi.toNat - (k.regs s).lo.toNat))) (fun W hW => ?_) (fun W hW => (zrU (HB W hW) (k.regs s) hle q0 q1).mono (fun e w' hh => ⟨hh.1,hW.trans (hh.2.mono hW.size)⟩)) ?_
 ·go_simp
 repeat (refine zab rfl ?_ (fun W hW => ?_) ?_; rotate_left 1; · (obtain ⟨⟨f0,f1⟩,⟨gs,es⟩⟩:=HF W hW; go_simp; with_reducible rfl))
 refine wpQuiet_nil ?_
 intro W hW
 have hK:=HB W hW
 have c0:=(hK.cR r hr).1
 have c1:=(hK.cR r hr).2
 have z0:=hK.fz (r * 2)
 have z1:=hK.fz (r * 2 + 1)
 have hKK:=hK.putR r hr (zcf k.cells (k.regs s).lo.toNat ((k.regs s).hi.toNat - (k.regs s).lo.toNat))
 go_wp2_with (go_at_call 227; (with_reducible refine (zcc hKK h0 h1 n0 n1).mono ?_); intro e w6 hw6; have hw7:=zex (hA ▸ hW) hw6; clear hw6; obtain ⟨g,rfl,hg,hc,hk,hgr⟩:=hw7)
 go_ret
 exact ⟨g,rfl,hg,hc,hk,hgr⟩
theorem zmD {w : World} {b : Nat} {bv : Value} {k : Kn} (h : KnM w b bv k) (r : Nat) (hr : r < 8) (s : Nat) (hs : s < 8) (hle : (k.regs r).lo ≤ (k.regs r).hi) (q0 : 0 ≤ (k.regs r).lo) (q1 : (k.regs r).hi ≤ 15) (h0 : 0 ≤ k.steps) (h1 : k.steps ≤ 100000) (n0 : 0 ≤ k.next) (n1 : k.next ≤ 100000) :
  Calls Tryz.prog 257 #[.agg #[.int .i64 (r : Int),.int .i64 (s : Int)],.pointer (some ⟨b,0,none⟩)] w (zaN w b bv ({ k with cells:=zaA k.cells (k.regs r).lo.toNat (k.regs r).hi.toNat (k.regs s) }.goTo (k.next + 1))):=by
 have hlt:=h.lt
 have r0 : (0 : Int) ≤ (r : Int):=by omega
 have r1 : (r : Int) < 8:=by omega
 have s0 : (0 : Int) ≤ (s : Int):=by omega
 have s1 : (s : Int) < 8:=by omega
 obtain ⟨A,hA⟩ : ∃ A,w.alloc (.cells #[.int .i64 (r : Int),.int .i64 (s : Int)] 178) = A:=⟨_,rfl⟩
 have HB : ∀ W,Below A.heap.size A W → KnM W b bv k:=fun W hW => by subst hA; exact (h.alloc _).below hW (by simp; omega)
 have hL : ∀ W,Below A.heap.size A W → Below w.heap.size w W:=fun W hW => by subst hA; exact box1.trans (hW.mono (by simp))
 have HF : ∀ W,Below A.heap.size A W → (W.cell? ⟨w.heap.size,0,none⟩ = some (.int .i64 (r : Int)) ∧ W.cell? ⟨w.heap.size,1,none⟩ = some (.int .i64 (s : Int))) ∧ (W.cell? ⟨b,r * 2,none⟩ = some (.int .i64 (k.regs r).lo) ∧ W.cell? ⟨b,r * 2 + 1,none⟩ = some (.int .i64 (k.regs r).hi)) ∧ (W.cell? ⟨b,s * 2,none⟩ = some (.int .i64 (k.regs s).lo) ∧ W.cell? ⟨b,s * 2 + 1,none⟩ = some (.int .i64 (k.regs s).hi)):=fun W hW =>
  ⟨by subst hA; exact ⟨za2 hW 0,za2 hW 1⟩,(HB W hW).cR r hr,(HB W hW).cR s hs⟩
 go_enter Tryz.func257,Tryz.ntmps257
 go_wp2
 refine zad 15 (fun W => Below A.heap.size A W) (Below.refl _ _).drew (by kernel_rfl) (by kernel_rfl) ?_
 simp only [List.take_succ_cons,List.take_zero,List.drop_succ_cons,List.drop_zero]
 repeat (refine zab rfl ?_ (fun W hW => ?_) ?_; rotate_left 1; · (obtain ⟨⟨f0,f1⟩,⟨f2,f3⟩,f4,f5⟩:=HF W hW; go_simp; with_reducible rfl))
 refine wpQuiet_nil ?_
 intro W hW
 have hK:=HB W hW
 have hW2:=hL W hW
 go_wp2_with (first | (go_at_call 258; (with_reducible refine (zps hK (k.regs r) (k.regs s) hle q0 q1).mono ?_); rintro e w5 ⟨rfl,hK5,hg5⟩) | (go_at_call 227; (with_reducible refine (zcc hK5 h0 h1 n0 n1).mono ?_); intro e w6 hw6; have hw7:=zdb (zaf (zaH hW2) hg5) hw6; clear hw6; obtain ⟨g,rfl,hg,hc,hk,hgr⟩:=hw7))
 go_ret
 exact ⟨g,rfl,hg,hc,hk,hgr⟩
theorem zso {w : World} {p : Value} (r : Rg) (hr : r.Ok) (h : ¬ (0 ≤ r.lo ∧ r.hi ≤ 15)) : Calls Tryz.prog 254 #[p,rv r] w fun e w' => e = zah 8 0 ∧ Below w.heap.size w w':=by
 go_enter Tryz.func254,Tryz.ntmps254
 go_wp2_with (go_at_call 255; (with_reducible refine (zg0 r hr h).mono ?_); rintro e wx ⟨rfl,hbx⟩)
 exact ⟨rfl,rfl,box2.trans (hbx.mono (by simp; omega))⟩
theorem zp6 {w : World} {p : Value} (r v : Rg) (hr : r.Ok) (h : ¬ (0 ≤ r.lo ∧ r.hi ≤ 15)) : Calls Tryz.prog 258 #[p,rv r,rv v] w fun e w' => e = zah 8 0 ∧ Below w.heap.size w w':=by
 go_enter Tryz.func258,Tryz.ntmps258
 go_wp2_with (go_at_call 255; (with_reducible refine (zg0 r hr h).mono ?_); rintro e wx ⟨rfl,hbx⟩)
 exact ⟨rfl,rfl,box2.trans (hbx.mono (by simp; omega))⟩
theorem zii {w : World} {b : Nat} {bv : Value} {k : Kn} (h : KnM w b bv k) (r : Nat) (s : Nat) (hs : s < 8) (K : (k.regs s).Ok) (hout : ¬ (0 ≤ (k.regs s).lo ∧ (k.regs s).hi ≤ 15)) :
  Calls Tryz.prog 252 #[.agg #[.int .i64 (r : Int),.int .i64 (s : Int)],.pointer (some ⟨b,0,none⟩)] w fun e w' => e = zah 8 0 ∧ Below w.heap.size w w':=by
 have hlt:=h.lt
 have s0 : (0 : Int) ≤ (s : Int):=by omega
 have s1 : (s : Int) < 8:=by omega
 have a0:=((h.alloc (.cells #[.int .i64 (r : Int),.int .i64 (s : Int)] 176)).cR s hs).1
 have a1:=((h.alloc (.cells #[.int .i64 (r : Int),.int .i64 (s : Int)] 176)).cR s hs).2
 go_enter Tryz.func252,Tryz.ntmps252
 go_wp2
 go_region_dies
 all_goals (go_at_call 254; (with_reducible refine (zso (k.regs s) K hout).mono ?_); rintro e wx ⟨rfl,hbx⟩)
 all_goals exact ⟨rfl,rfl,(box1.drew).trans (hbx.mono (by simp))⟩
theorem zhG {w : World} {b : Nat} {bv : Value} {k : Kn} (h : KnM w b bv k) (r : Nat) (hr : r < 8) (s : Nat) (hs : s < 8) (K : (k.regs r).Ok) (hout : ¬ (0 ≤ (k.regs r).lo ∧ (k.regs r).hi ≤ 15)) :
  Calls Tryz.prog 257 #[.agg #[.int .i64 (r : Int),.int .i64 (s : Int)],.pointer (some ⟨b,0,none⟩)] w fun e w' => e = zah 8 0 ∧ Below w.heap.size w w':=by
 have hlt:=h.lt
 have r0 : (0 : Int) ≤ (r : Int):=by omega
 have r1 : (r : Int) < 8:=by omega
 have s0 : (0 : Int) ≤ (s : Int):=by omega
 have s1 : (s : Int) < 8:=by omega
 obtain ⟨A,hA⟩ : ∃ A,w.alloc (.cells #[.int .i64 (r : Int),.int .i64 (s : Int)] 178) = A:=⟨_,rfl⟩
 have HB : ∀ W,Below A.heap.size A W → KnM W b bv k:=fun W hW => by subst hA; exact (h.alloc _).below hW (by simp; omega)
 have hL : ∀ W,Below A.heap.size A W → Below w.heap.size w W:=fun W hW => by subst hA; exact box1.trans (hW.mono (by simp))
 have HF : ∀ W,Below A.heap.size A W → (W.cell? ⟨w.heap.size,0,none⟩ = some (.int .i64 (r : Int)) ∧ W.cell? ⟨w.heap.size,1,none⟩ = some (.int .i64 (s : Int))) ∧ (W.cell? ⟨b,r * 2,none⟩ = some (.int .i64 (k.regs r).lo) ∧ W.cell? ⟨b,r * 2 + 1,none⟩ = some (.int .i64 (k.regs r).hi)) ∧ (W.cell? ⟨b,s * 2,none⟩ = some (.int .i64 (k.regs s).lo) ∧ W.cell? ⟨b,s * 2 + 1,none⟩ = some (.int .i64 (k.regs s).hi)):=fun W hW =>
  ⟨by subst hA; exact ⟨za2 hW 0,za2 hW 1⟩,(HB W hW).cR r hr,(HB W hW).cR s hs⟩
 go_enter Tryz.func257,Tryz.ntmps257
 go_wp2
 refine zad 15 (fun W => Below A.heap.size A W) (Below.refl _ _).drew (by kernel_rfl) (by kernel_rfl) ?_
 simp only [List.take_succ_cons,List.take_zero,List.drop_succ_cons,List.drop_zero]
 repeat (refine zab rfl ?_ (fun W hW => ?_) ?_; rotate_left 1; · (obtain ⟨⟨f0,f1⟩,⟨f2,f3⟩,f4,f5⟩:=HF W hW; go_simp; with_reducible rfl))
 refine wpQuiet_nil ?_
 intro W hW
 have hW2:=hL W hW
 go_wp2_with (first | (go_at_call 258; (with_reducible refine (zp6 (k.regs r) (k.regs s) K hout).mono ?_); rintro e w5 ⟨rfl,hb5⟩))
 exact ⟨rfl,rfl,hW2.trans (hb5.mono hW2.size)⟩
theorem zm8 {w : World} {ao : Option Addr} {cap : Nat} : Calls Tryz.prog 169 #[.slice ao 0 cap,.int .i64 0] w fun e w' => e = .returned (.int .i64 0) ∧ Below w.heap.size w w':=by
 go_enter Tryz.func169,Tryz.ntmps169
 go_wp2
 go_loopw [5,6] (fun tl tb wr => tl = .int .i64 0 ∧ tb = .int .i64 1 ∧ Below w.heap.size w wr) (fun _ _ _ => 0)
 case atStart => exact ⟨rfl,rfl,Below.refl _ _⟩
 case round =>
  obtain ⟨rfl,rfl,hb⟩:=hrel
  go_wp2
  go_ret
  exact ⟨rfl,hb⟩
theorem zpw {w : World} {ao : Option Addr} {cap : Nat} : Calls Tryz.prog 154 #[.slice ao 0 cap,.int .i64 0] w fun e w' => e = .returned (.tuple #[]) ∧ Below w.heap.size w w':=by
 go_enter Tryz.func154,Tryz.ntmps154
 go_wp2
 go_loopw [1] (fun ti wr => ti = .int .i64 0 ∧ Below w.heap.size w wr) (fun _ _ => 0)
 case atStart => exact ⟨rfl,Below.refl _ _⟩
 case round =>
  obtain ⟨rfl,hb⟩:=hrel
  go_wp2_with (go_at_call 169; (with_reducible refine zm8.mono ?_); rintro e wx ⟨rfl,hbx⟩)
  refine bodyPost_ret (results_none rfl _ _ _) rfl ⟨rfl,hb.trans (hbx.mono hb.size)⟩
theorem zuk {w : World} {H C cap n : Nat} {xs : List Wy} (h : HpM w H C xs) (hl : xs.length = n) (a : Nat) (ha : a < n) (hn : n ≤ 100000) (hR : SinkI (stp xs) n a) : Calls Tryz.prog 154 #[.slice (some ⟨H,0,none⟩) n cap,.int .i64 (a : Int)] w (zjK w H C xs):=by
 have L0 : ∃ ys : List Wy,ys.Perm xs ∧ HpM w H C ys ∧ SinkI (stp ys) n a ∧ w.grownBy w (some H):=⟨xs,List.Perm.refl _,h,hR,⟨rfl,rfl,rfl,Nat.le_refl _,fun _ _ _ => rfl⟩⟩
 have HN : Hid (xs.length = n):=hl
 clear hl h hR
 go_enter Tryz.func154,Tryz.ntmps154
 go_wp2
 go_loopw [1] (fun ti wr => ∃ a : Nat,ti = .int .i64 (a : Int) ∧ a < n ∧ ∃ ys : List Wy,ys.Perm xs ∧ HpM wr H C ys ∧ SinkI (stp ys) n a ∧ w.grownBy wr (some H)) (fun ti _ => n - (intOf ti).toNat)
 case atStart => exact ⟨a,rfl,ha,L0⟩
 case round =>
  obtain ⟨a,rfl,ha,ys,hp,hM,hR,hg⟩:=hrel
  clear L0
  have hl : ys.length = n:=hp.length_eq.trans HN.out
  have hls:=zrZ (cap:=cap) hM a (by omega) (by omega)
  rw [hl] at hls
  go_wp2_with (go_at_call 169; (with_reducible refine hls.mono ?_); rintro e wx ⟨m,rfl,hX,m1,m2,m3,m4,m5⟩)
  ·have hx0 : ((m : Int) == (a : Int)) = true:=by assumption
   have hx : (m : Int) = (a : Int):=by simpa using hx0
   obtain rfl : m = a:=by omega
   rw [hl] at m4 m5
   exact bodyPost_ret (results_none rfl _ _ _) rfl ⟨rfl,ys,hp,hM.below hX,by rw [hl]; exact hR.done m4 m5,zaf hg (zaH hX)⟩
  ·have hx0 : ((m : Int) == (a : Int)) = false:=by assumption
   have hx : ¬ (m : Int) = (a : Int):=by simpa using hx0
   have hma : ¬ a = m:=by omega
   have hay : a < ys.length:=by omega
   have hmy : m < ys.length:=m1
   have c1:=((hM.below hX).at' hay).1
   have c2:=((hM.below hX).at' hmy).1
   have z1:=(hM.below hX).fz a
   have z2:=(hM.below hX).fz m
   have HS2:=(hM.below hX).swap hay hmy hma
   rw [hl] at m4 m5
   have hR3 : SinkI (stp (zdW wy0 ys a m)) n m:=by
    have e : stp (zdW wy0 ys a m) = zmx (stp ys) a m:=zrN hay hmy hma (fun x => keyK x.k)
    rw [e]
    exact hR.step (by omega) (by omega) m3 m4 m5
   have a0 : (0 : Int) ≤ (a : Int):=by omega
   have a1 : (a : Int) < (n : Int):=by omega
   have q0 : (0 : Int) ≤ (m : Int):=by omega
   have q1 : (m : Int) < (n : Int):=by omega
   have hmm : a < m:=by omega
   have hmn : m < n:=by omega
   generalize ys.getD a wy0 = xa at c1 HS2
   generalize ys.getD m wy0 = xm at c2 HS2
   clear m1 m2 m3 m4 m5 hls
   go_region
   all_goals go_wp2
   all_goals exact ⟨⟨m,rfl,hmn,zdW wy0 ys a m,(zgf hay hmy).trans hp,HS2.drew,hR3,zbk (zaf hg (zaf (zae hX) (zae (Below.refl _ _))))⟩,by simp [intOf]; omega⟩
def insL : Ins → Nat
 | .set _ _ => 224 | .mov _ _ => 231 | .alu o _ _ _ => if o = 0 then 233 else if o = 1 then 240 else 244 | .inc _ _ => 250 | .load _ _ => 252 | .store _ _ => 257
 | .read _ => 260 | .write _ => 263 | .jump _ => 266 | .less _ _ _ => 268 | .same _ _ _ => 275 | .call _ => 280 | .back => 285 | .stop => 289
def zdE (w : World) (b : Nat) (ao : Option Addr) : Option (List Kn) → Ending → World → Prop
 | none => fun e w' => e = zah 8 0 ∧ w.grownBy w' (some b)
 | some ks => fun e w' => ∃ (so : Option Addr) (sc : Nat) (ps : List Nat) (ao' : Option Addr) (cap' n' : Nat),e = .returned (.slice so ps.length sc) ∧ WaysAt w w' b (.slice ao' n' cap') ks so ps ∧ (∀ k' ∈ ks,n' = k'.behind.length ∧ BhM w' ao' cap' k'.behind) ∧ (ao' = ao ∨ ∀ a,ao' = some a → w.heap.size ≤ a.block) ∧ ∀ p ∈ ps,∀ a,ao' = some a → ¬ a.block = p
theorem zhM {w : World} {b f : Nat} {ao : Option Addr} {args : Array Value} (h : Calls Tryz.prog f args w fun e w' => e = zah 8 0 ∧ Below w.heap.size w w') : Calls Tryz.prog f args w (zdE w b ao none) :=
 h.mono fun _ _ hh => ⟨hh.1,zaH hh.2⟩
theorem zjM {w : World} {b f cap : Nat} {ao : Option Addr} {args : Array Value} {l : List Int} {ks : List Kn} (_hlt : b < w.heap.size) (B : BhM w ao cap l) (ap : ∀ a,ao = some a → ¬ a.block = b) (hks : ∀ k' ∈ ks,k'.behind = l) (h : Calls Tryz.prog f args w (zc7 w b (.slice ao l.length cap) ks)) : Calls Tryz.prog f args w (zdE w b ao (some ks)):=by
 refine h.mono ?_
 rintro e w' ⟨so,sc,ps,rfl,A⟩
 refine ⟨so,sc,ps,ao,cap,l.length,rfl,A,fun k' hk' => ?_,.inl rfl,fun p hp a ha => ?_⟩
 ·rw [hks k' hk']; exact ⟨rfl,B.grown A.grown ap⟩
 ·obtain ⟨g,rfl⟩:=B.at0 a ha
  rcases A.from' p hp with e | e
  ·rw [e]; exact ap _ ha
  ·have:=(B.cell g ha).1
   show ¬ g = p
   omega
theorem zb0 {w : World} {b f cap : Nat} {ao : Option Addr} {args : Array Value} {l : List Int} {k' : Kn} (hlt : b < w.heap.size) (B : BhM w ao cap l) (ap : ∀ a,ao = some a → ¬ a.block = b) (hk : k'.behind = l) (h : Calls Tryz.prog f args w (zaN w b (.slice ao l.length cap) k')) : Calls Tryz.prog f args w (zdE w b ao (some [k'])) :=
 zjM hlt B ap (fun x hx => by rw [List.mem_singleton.1 hx]; exact hk) (h.mono fun _ _ hh => zjH hh)
theorem zl1 {w : World} {b f : Nat} {ao : Option Addr} {args : Array Value} (h : Calls Tryz.prog f args w fun e w' => e = .returned (.slice none 0 0) ∧ Below w.heap.size w w') : Calls Tryz.prog f args w (zdE w b ao (some [])):=by
 refine h.mono ?_
 rintro e w' ⟨rfl,hb⟩
 exact ⟨none,0,[],ao,0,0,rfl,⟨zaH hb,fun i p hp => by simp at hp,rfl,fun i p k hp => by simp at hp,List.nodup_nil,fun p hp => by cases hp⟩,fun k' hk' => (by cases hk'),.inl rfl,fun p hp => (by cases hp)⟩
theorem zwA {w : World} {b : Nat} {bv : Value} {k : Kn} {e : Ending} {w' : World} (h : zaN w b bv k e w') : ∃ g,e = .returned (.slice (some ⟨g,0,none⟩) [b].length 1) ∧ WaysAt w w' b bv [k] (some ⟨g,0,none⟩) [b]:=by
 obtain ⟨g,rfl,hg,hc,hk,hgr⟩:=h
 refine ⟨g,rfl,⟨hgr,fun i p hp => ?_,rfl,fun i p k' hp hk' => ?_,by simp,fun p hp => .inl (List.mem_singleton.1 hp)⟩⟩
 ·cases i with
  | zero => cases hp; exact ⟨g,rfl,hg,hc⟩
  | succ i => simp at hp
 ·cases i with
  | zero => cases hp; cases hk'; exact hk
  | succ i => simp at hp
theorem zfD {k : Kn} {l r : Nat} {f g : Rg → Rg → Option (Rg × Rg)} {z : Int} : ∀ k' ∈ zbq k l r f g z,k'.behind = k.behind:=by
 intro k' hk'
 unfold zbq at hk'
 split at hk'
 ·rcases List.mem_cons.1 hk' with rfl | h
  ·rfl
  ·rw [List.mem_singleton.1 h]; rfl
 ·rw [List.mem_singleton.1 hk']; rfl
 ·rw [List.mem_singleton.1 hk']; rfl
 ·rw [List.mem_singleton.1 hk']; rfl
theorem zmF {l : List Int} (h : l ≠ []) : l = l.dropLast ++ [l.getLastD 0]:=by
 rw [List.getLastD_eq_getLast?,List.getLast?_eq_some_getLast h]
 exact (List.dropLast_concat_getLast h).symm
theorem zsp {w : World} {b cap : Nat} {ao : Option Addr} {k : Kn} (i : Ins) (hi : zkJ i) (h : KnM w b (.slice ao k.behind.length cap) k) (B : BhM w ao cap k.behind) (ap : ∀ a,ao = some a → ¬ a.block = b) (K : KnOk k) (h0 : 0 ≤ k.steps) (h1 : k.steps ≤ 100000) (n0 : 0 ≤ k.next) (n1 : k.next ≤ 100000) :
  Calls Tryz.prog (insL i) #[.agg (insA i),.pointer (some ⟨b,0,none⟩)] w (zdE w b ao (zav i k)):=by
 have hlt:=h.lt
 cases i with
 | set r n => exact zb0 hlt B ap rfl (zse h r hi n h0 h1 n0 n1)
 | mov r s => exact zb0 hlt B ap rfl (zsl h r hi.1 s hi.2 h0 h1 n0 n1)
 | alu o r s t =>
  obtain ⟨ho,hr,hs,ht⟩:=hi
  rcases (by omega : o = 0 ∨ o = 1 ∨ o = 2) with rfl | rfl | rfl
  ·exact zb0 hlt B ap rfl (zsi h r hr s hs t ht h0 h1 n0 n1)
  ·exact zb0 hlt B ap rfl (zsn h r hr s hs t ht h0 h1 n0 n1)
  ·exact zb0 hlt B ap rfl (zsj h K r hr s hs t ht h0 h1 n0 n1)
 | inc r n => exact zb0 hlt B ap rfl (zsk h r hi n h0 h1 n0 n1)
 | load r s =>
  have hs:=(K.regs s hi.2)
  by_cases hc : 0 ≤ (k.regs s).lo ∧ (k.regs s).hi ≤ 15
  ·have e : zav (.load r s) k = some [{ k with regs:=updR k.regs r (zcf k.cells (k.regs s).lo.toNat ((k.regs s).hi.toNat - (k.regs s).lo.toNat)) }.goTo (k.next + 1)]:=by simp only [zav,zbL,if_pos hc]
   rw [e]
   exact zb0 hlt B ap rfl (zp5 h r hi.1 s hi.2 hs.2.2 hc.1 hc.2 h0 h1 n0 n1)
  ·have e : zav (.load r s) k = none:=by simp only [zav,zbL,if_neg hc]
   rw [e]
   exact zhM (zii h r s hi.2 hs hc)
 | store r s =>
  have hs:=(K.regs r hi.1)
  by_cases hc : 0 ≤ (k.regs r).lo ∧ (k.regs r).hi ≤ 15
  ·have e : zav (.store r s) k = some [{ k with cells:=zaA k.cells (k.regs r).lo.toNat (k.regs r).hi.toNat (k.regs s) }.goTo (k.next + 1)]:=by simp only [zav,zbL,if_pos hc]
   rw [e]
   exact zb0 hlt B ap rfl (zmD h r hi.1 s hi.2 hs.2.2 hc.1 hc.2 h0 h1 n0 n1)
  ·have e : zav (.store r s) k = none:=by simp only [zav,zbL,if_neg hc]
   rw [e]
   exact zhM (zhG h r hi.1 s hi.2 hs hc)
 | read r => exact zb0 hlt B ap rfl (zp3 h r hi h0 h1 n0 n1)
 | write r => exact zb0 hlt B ap rfl (zmE h r h0 h1 n0 n1)
 | jump to => exact zb0 hlt B ap rfl (zp7 h to h0 h1)
 | less l r to =>
  by_cases e : l = r
  ·subst e
   have e1 : zav (.less l l to) k = some [k.goTo (k.next + 1)]:=by simp only [zav,if_true]
   rw [e1]
   exact zb0 hlt B ap rfl (zhK h l to h0 h1 n0 n1)
  ·have e1 : zav (.less l r to) k = some (zbq k l r zet zbi to):=by simp only [zav,if_neg e]
   rw [e1]
   exact zjM hlt B ap zfD (zg6 h rfl K l r hi.1 hi.2 e to h0 h1 n0 n1)
 | same l r to =>
  by_cases e : l = r
  ·subst e
   have e1 : zav (.same l l to) k = some [k.goTo to]:=by simp only [zav,if_true]
   rw [e1]
   exact zb0 hlt B ap rfl (zhL h l to h0 h1)
  ·have e1 : zav (.same l r to) k = some (zbq k l r zeu za8 to):=by simp only [zav,if_neg e]
   rw [e1]
   exact zjM hlt B ap zfD (zg7 h rfl K l r hi.1 hi.2 e to h0 h1 n0 n1)
 | call to =>
  have hl:=B.len
  by_cases e : k.behind.length + 1 = 16
  ·have e1 : zav (.call to) k = none:=by simp only [zav,if_pos e]
   rw [e1]
   exact zhM (zhH h to (by omega))
  ·have e1 : zav (.call to) k = some [{ k with behind:=k.behind ++ [k.next + 1] }.goTo to]:=by simp only [zav,if_neg e]
   rw [e1]
   refine (zp9 h B to (by omega) h0 h1 n0 n1).mono ?_
   rintro e w' ⟨g,c,hw,hB,hg⟩
   obtain ⟨g2,rfl,A⟩:=zwA hw
   refine ⟨some ⟨g2,0,none⟩,1,[b],some ⟨g,0,none⟩,c,_,rfl,A,fun k' hk' => ?_,.inr fun a ha => (by cases ha; exact hg),fun p hp a ha => ?_⟩
   ·rw [List.mem_singleton.1 hk']; exact ⟨by show _ = (k.behind ++ [k.next + 1]).length; simp,hB⟩
   ·cases ha
    rw [List.mem_singleton.1 hp]
    show ¬ g = b
    omega
 | back =>
  cases hb : k.behind with
  | nil =>
   have e1 : zav .back k = some []:=by simp only [zav,hb]
   rw [e1]
   rw [hb] at h
   exact zl1 (zhI h)
  | cons x r =>
   have hne : k.behind ≠ []:=by rw [hb]; simp
   have e1 : zav .back k = some [{ k with behind:=k.behind.dropLast }.goTo (k.behind.getLastD 0)]:=by simp only [zav,hb]
   rw [e1]
   refine (zhJ h B (zmF hne) ap h0 h1).mono ?_
   rintro e w' ⟨hw,hB⟩
   obtain ⟨so,sc,ps,rfl,A⟩:=zjH hw
   refine ⟨so,sc,ps,ao,cap,_,rfl,A,fun k' hk' => ?_,.inl rfl,fun p hp a ha => ?_⟩
   ·rw [List.mem_singleton.1 hk']; exact ⟨rfl,hB⟩
   ·obtain ⟨g,rfl⟩:=B.at0 a ha
    rcases A.from' p hp with e | e
    ·rw [e]; exact ap _ ha
    ·have:=(B.cell g ha).1
     show ¬ g = p
     omega
 | stop => exact zl1 (zp8 _)
def zum (w : World) (S o B H cap : Nat) (xs : List Wy) : Ending → World → Prop:=fun e w' => e = .returned (.pointer (some ⟨(xs.getD 0 wy0).b,0,none⟩)) ∧ ∃ ys : List Wy,(xs.getD 0 wy0 :: ys).Perm xs ∧ w'.cell? ⟨S,o,none⟩ = some (.slice (some ⟨H,0,none⟩) ys.length cap) ∧ HeapM w' B (.slice (some ⟨H,0,none⟩) ys.length cap) ys ∧ HpAll (stp ys) ys.length ∧ WyM w' (xs.getD 0 wy0) ∧ Kept2 w w' S o (some H)
theorem zsb {w : World} {S o B H cap : Nat} {xs : List Wy} (hc : w.cell? ⟨S,o,none⟩ = some (.slice (some ⟨H,0,none⟩) xs.length cap)) (hz : w.frozen? ⟨S,o,none⟩ = false) (M : HeapM w B (.slice (some ⟨H,0,none⟩) xs.length cap) xs) (hA : HpAll (stp xs) xs.length) (hne : 0 < xs.length) (hlen : xs.length ≤ 100000) (hSH : ¬ S = H) (hS : ∀ y ∈ xs,¬ y.b = S ∧ ∀ a,y.ao = some a → ¬ a.block = S) :
  Calls Tryz.prog 139 #[.pointer (some ⟨S,o,none⟩)] w (zum w S o B H cap xs):=by
 obtain ⟨P,p1,p2,p3⟩:=M.hp
 obtain ⟨m,hm⟩ : ∃ m,xs.length = m + 1:=⟨xs.length - 1,by omega⟩
 have hSl : S < w.heap.size:=World.block_lt_of_cell? w _ hc
 have c0:=(P.at' (i:=0) (by omega)).1
 have cl:=(P.at' (i:=m) (by omega)).1
 obtain ⟨W1,hW1⟩ : ∃ W1,W1 = (w.setCell ⟨H,0,none⟩ (.pointer (some ⟨(xs.getD m wy0).b,0,none⟩))).setCell ⟨H,m,none⟩ (.pointer none):=⟨_,rfl⟩
 obtain ⟨W2,hW2⟩ : ∃ W2,W2 = W1.setCell ⟨S,o,none⟩ (.slice (some ⟨H,0,none⟩) m cap):=⟨_,rfl⟩
 have hHS : ¬ H = S:=fun e => hSH e.symm
 have b1 : ∀ q,¬ q = H → W1.heap[q]? = w.heap[q]?:=fun q hq => by rw [hW1]; exact (Below.heap_setCell _ _ _ q hq).trans (Below.heap_setCell _ _ _ q hq)
 have b2 : ∀ q,¬ q = S → W2.heap[q]? = W1.heap[q]?:=fun q hq => by rw [hW2]; exact Below.heap_setCell _ _ _ q hq
 have s1 : W1.heap.size = w.heap.size:=by rw [hW1,World.size_setCell,World.size_setCell]
 have s2 : W2.heap.size = w.heap.size:=by rw [hW2,World.size_setCell,s1]
 have l0 : (w.setCell ⟨H,0,none⟩ (.pointer (some ⟨(xs.getD m wy0).b,0,none⟩))).cell? ⟨H,m,none⟩ = some (.pointer (some ⟨(xs.getD m wy0).b,0,none⟩)):=by
  rw [za1 w H 0 m _ _ c0]
  split
  ·rfl
  ·exact cl
 have cS1 : W1.cell? ⟨S,o,none⟩ = some (.slice (some ⟨H,0,none⟩) xs.length cap):=(World.cell?_of_block (a:=⟨S,o,none⟩) (b1 S hSH)).trans hc
 have cS2 : W2.cell? ⟨S,o,none⟩ = some (.slice (some ⟨H,0,none⟩) m cap):=by rw [hW2]; exact World.cell?_setCell_same _ _ _ cS1
 have wyk : ∀ x ∈ xs,WyM W2 x:=fun x hx => by
  obtain ⟨f1,f2⟩:=P.far x hx
  obtain ⟨f3,f4⟩:=hS x hx
  rw [hW2,hW1]
  exact (((P.wy x hx).other f1 f2).other f1 f2).other f3 f4
 have PX : HpM W2 H cap (zgj xs m):=by
  refine ⟨fun i x hx => ?_,fun x hx => wyk x (zls hm x hx),by rw [s2]; exact P.lt,fun x hx => P.far x (zls hm x hx),fun j => ?_,?_⟩
  ·have hi : i < m:=by have:=(List.getElem?_eq_some_iff.1 hx).1; rw [zfC hm] at this; exact this
   rw [znO hm hi] at hx
   rw [World.cell?_of_block (a:=⟨H,i,none⟩) (b2 H hHS),hW1,za1 _ H m i _ _ l0,if_neg (by omega),za1 w H 0 i _ _ c0]
   cases hx
   by_cases e : i = 0
   ·rw [if_pos e,if_pos e]
   ·rw [if_neg e,if_neg e]; exact (P.at' (i:=i) (by omega)).1
  ·rw [World.frozen?_of_block (a:=⟨H,j,none⟩) (b2 H hHS),hW1,zcP,zcP]; exact P.fz j
  ·obtain ⟨cur,h1,h2⟩:=P.shape
   refine ⟨_,(b2 H hHS).trans (by rw [hW1]; exact heap_setCell_same _ H m _ 197 _ (heap_setCell_same _ H 0 _ 197 _ h1)),by simpa using h2⟩
 have hK2 : ∀ W',W2.grownBy W' (some H) → Kept2 w W' S o (some H):=fun W' hg => by
  have hbS : W'.heap[S]? = W2.heap[S]?:=hg.block S (by omega) (fun e => hSH (by cases e; rfl))
  refine ⟨hg.os.trans (by rw [hW2,hW1]; rfl),hg.tape.trans (by rw [hW2,hW1]; rfl),hg.output.trans (by rw [hW2,hW1]; rfl),by rw [← s2]; exact hg.size,fun q hq h1 h2 => ?_,fun j hj => ?_,fun j => ?_⟩
  ·exact (hg.block q (by omega) h2).trans ((b2 q h1).trans (b1 q (fun e => h2 (by rw [e]))))
  ·rw [World.cell?_of_block (w:=W2) (a:=⟨S,j,none⟩) hbS,hW2,za1 _ S o j _ _ cS1,if_neg hj]
   exact World.cell?_of_block (a:=⟨S,j,none⟩) (b1 S hSH)
  ·rw [World.frozen?_of_block (w:=W2) (a:=⟨S,j,none⟩) hbS,hW2,zcP]
   exact World.frozen?_of_block (a:=⟨S,j,none⟩) (b1 S hSH)
 have x0in : xs.getD 0 wy0 ∈ xs:=(zgk hm).mem_iff.1 List.mem_cons_self
 have hfin : ∀ W' ys,W2.grownBy W' (some H) → ys.Perm (zgj xs m) → HpM W' H cap ys → HpAll (stp ys) ys.length → ∃ ys : List Wy,(xs.getD 0 wy0 :: ys).Perm xs ∧ W'.cell? ⟨S,o,none⟩ = some (.slice (some ⟨H,0,none⟩) ys.length cap) ∧ HeapM W' B (.slice (some ⟨H,0,none⟩) ys.length cap) ys ∧ HpAll (stp ys) ys.length ∧ WyM W' (xs.getD 0 wy0) ∧ Kept2 w W' S o (some H):=fun W' ys hg hp hM hA2 => by
  have hyl : ys.length = m:=by rw [hp.length_eq,zfC hm]
  refine ⟨ys,(List.Perm.cons _ hp).trans (zgk hm),?_,hM.heap (by omega) p2 p3,hA2,(wyk _ x0in).grown hg (fun g e => by cases e; exact P.far _ x0in),hK2 W' hg⟩
  rw [World.cell?_of_block (w:=W2) (a:=⟨S,o,none⟩) (hg.block S (by omega) (fun e => hSH (by cases e; rfl))),cS2,hyl]
 rw [hm] at hc p1
 refine (zsa hc hz hSH (by omega) p1 p2 c0 cl P.fz hSl (fun W' => ∃ ys : List Wy,(xs.getD 0 wy0 :: ys).Perm xs ∧ W'.cell? ⟨S,o,none⟩ = some (.slice (some ⟨H,0,none⟩) ys.length cap) ∧ HeapM W' B (.slice (some ⟨H,0,none⟩) ys.length cap) ys ∧ HpAll (stp ys) ys.length ∧ WyM W' (xs.getD 0 wy0) ∧ Kept2 w W' S o (some H)) (fun W hW => ?_)).mono fun e w' hh => hh
 rw [← hW1,← hW2] at hW
 have hW' : Below W2.heap.size W2 W:=by rw [s2]; exact hW
 by_cases h0 : m = 0
 ·subst h0
  refine zpw.mono ?_
  rintro e w' ⟨rfl,hb⟩
  have hb2 : Below W2.heap.size W2 w':=hW'.trans (hb.mono hW'.size)
  exact ⟨rfl,hfin w' (zgj xs 0) (zaH hb2) (List.Perm.refl _) (PX.below hb2) (fun i hi hn => by rw [zfC hm] at hn; omega)⟩
 ·have hR : SinkI (stp (zgj xs m)) m 0:=SinkI.head (m:=m) (n:=xs.length) hA (by omega) (fun i hi hn => by
   unfold stp
   have e:=znO hm (i:=i) hn
   rw [if_neg (by omega)] at e
   simp only [List.getD,e]
   rfl)
  refine (zuk (cap:=cap) (PX.below hW') (zfC hm) 0 (by omega) (by omega) hR).mono ?_
  rintro e w' ⟨rfl,ys,hp,hM,hA2,hg⟩
  exact ⟨rfl,hfin w' ys (zaf (zaH hW') hg) hp hM hA2⟩
theorem zfG (w : World) (ao : Option Addr) (n cap : Nat) (_hn : n ≤ 1000000) : Calls Tryz.prog 114 #[.slice ao n cap] w fun e w' => e = .returned (.int .i64 (n : Int)) ∧ w' = w:=by
 go_enter Tryz.func114,Tryz.ntmps114
 go_wp2
 go_ret
 exact ⟨rfl,rfl⟩
theorem zl4 {w : World} {S o : Nat} {v : Value} : Below S w (w.setCell ⟨S,o,none⟩ v):=(Below.refl S w).setCell (p:=⟨S,o,none⟩) (Nat.le_refl _) v
theorem zsw {w : World} {S : Nat} {ao : Option Addr} {n cap looks : Nat} (c1 : w.cell? ⟨S,1,none⟩ = some (.slice ao n cap)) (c6 : w.cell? ⟨S,6,none⟩ = some (.int .i64 (looks : Int))) (fz : w.frozen? ⟨S,6,none⟩ = false) (hl : looks < 500000) (hn : n ≤ 1000) :
  Calls Tryz.prog 115 #[.pointer (some ⟨S,0,none⟩)] w fun e w' => e = .returned (.tuple #[]) ∧ w' = w.setCell ⟨S,6,none⟩ (.int .i64 ((looks : Int) + 1)):=by
 have h1 : (0 : Int) ≤ (looks : Int):=by omega
 have h2 : (looks : Int) < 500000:=by omega
 have t1 : decide ((500000 : Int) < (looks : Int) + 1) = false:=by simpa using (by omega : ¬ (500000 : Int) < (looks : Int) + 1)
 have t2 : decide ((1000 : Int) < (n : Int)) = false:=by simpa using (by omega : ¬ (1000 : Int) < (n : Int))
 have hlen:=fun W => zfG W ao n cap (by omega)
 go_enter Tryz.func115,Tryz.ntmps115
 go_wp2_with (go_at_call 114; (with_reducible refine (hlen _).mono ?_); rintro e wx ⟨rfl,hww⟩; have hw2:=hww.symm; subst hw2)
 exact bodyPost_end (results_none rfl _ _ _) rfl ⟨rfl,rfl⟩
theorem zsx {w : World} {S : Nat} {ao : Option Addr} {n cap looks : Nat} (c1 : w.cell? ⟨S,1,none⟩ = some (.slice ao n cap)) (c6 : w.cell? ⟨S,6,none⟩ = some (.int .i64 (looks : Int))) (fz : w.frozen? ⟨S,6,none⟩ = false) (hl : looks ≤ 500000) (hn : n ≤ 100000) (h : 500000 ≤ looks ∨ 1000 < n) :
  Calls Tryz.prog 115 #[.pointer (some ⟨S,0,none⟩)] w fun e w' => e = zah 8 0 ∧ Below S w w':=by
 have h1 : (0 : Int) ≤ (looks : Int):=by omega
 have hlen:=fun W => zfG W ao n cap (by omega)
 by_cases h5 : looks = 500000
 ·subst h5
  go_enter Tryz.func115,Tryz.ntmps115
  go_wp2_with (go_at_call 114; (with_reducible refine (hlen _).mono ?_); rintro e wx ⟨rfl,hww⟩; have hw2:=hww.symm; subst hw2)
  all_goals go_wp2
  exact ⟨rfl,rfl,rfl,rfl,zl4⟩
 ·have h2 : (looks : Int) < 500000:=by omega
  have t1 : decide ((500000 : Int) < (looks : Int) + 1) = false:=by simpa using (by omega : ¬ (500000 : Int) < (looks : Int) + 1)
  have t2 : (1000 : Int) < (n : Int):=by omega
  go_enter Tryz.func115,Tryz.ntmps115
  go_wp2_with (go_at_call 114; (with_reducible refine (hlen _).mono ?_); rintro e wx ⟨rfl,hww⟩; have hw2:=hww.symm; subst hw2)
  all_goals go_wp2
  exact ⟨rfl,rfl,rfl,rfl,zl4⟩
theorem zpE (v : Value) (w : World) : (method 422 171 v "Learn").run Tryz.prog w = .ok (233,v) w:=by kernel_rfl
theorem zmJ (args : Array Value) (w : World) : (callFunc 233 args).run Tryz.prog w = .ok (.enter 233 args) w:=by kernel_rfl
theorem zpF (v : Value) (w : World) : (method 422 172 v "Learn").run Tryz.prog w = .ok (240,v) w:=by kernel_rfl
theorem zmK (args : Array Value) (w : World) : (callFunc 240 args).run Tryz.prog w = .ok (.enter 240 args) w:=by kernel_rfl
theorem zpG (v : Value) (w : World) : (method 422 173 v "Learn").run Tryz.prog w = .ok (244,v) w:=by kernel_rfl
theorem zmL (args : Array Value) (w : World) : (callFunc 244 args).run Tryz.prog w = .ok (.enter 244 args) w:=by kernel_rfl
theorem zsz (i : Ins) (hi : zkJ i) (w : World) : (method 422 (insT i) (.agg (insA i)) "Learn").run Tryz.prog w = .ok (insL i,.agg (insA i)) w:=by
 cases i with
 | alu o r s t =>
  have ho:=hi.1
  clear hi
  rcases (by omega : o = 0 ∨ o = 1 ∨ o = 2) with rfl | rfl | rfl
  ·exact zpE _ w
  ·exact zpF _ w
  ·exact zpG _ w
 | _ => kernel_rfl
theorem zpH (i : Ins) (hi : zkJ i) (args : Array Value) (w : World) : (callFunc (insL i) args).run Tryz.prog w = .ok (.enter (insL i) args) w:=by
 cases i with
 | alu o r s t =>
  have ho:=hi.1
  clear hi
  rcases (by omega : o = 0 ∨ o = 1 ∨ o = 2) with rfl | rfl | rfl
  ·exact zmJ args w
  ·exact zmK args w
  ·exact zmL args w
 | _ => kernel_rfl
theorem zs0 {w : World} {S b : Nat} {bv : Value} {k : Kn} (X : KnM w b bv k) (e : k.steps = 100000) :
  Calls Tryz.prog 116 #[.pointer (some ⟨S,0,none⟩),.pointer (some ⟨b,0,none⟩)] w fun e w' => e = zah 8 0 ∧ w' = w:=by
 have h1:=zbG X
 rw [e] at h1
 go_enter Tryz.func116,Tryz.ntmps116
 go_wp2_with (go_at_call 134; (with_reducible refine h1.mono ?_); rintro e wx ⟨rfl,hww⟩; have hw2:=hww.symm; subst hw2)
 all_goals go_wp2
 exact ⟨rfl,rfl,rfl,rfl,rfl⟩
theorem zpI {w : World} {S b : Nat} {bv : Value} {k : Kn} (X : KnM w b bv k) (e : ¬ k.steps = 100000) (h : Calls Tryz.prog 135 #[.pointer (some ⟨S,2,none⟩),.pointer (some ⟨b,0,none⟩)] w fun e w' => e = .returned (.bool true) ∧ Below w.heap.size w w') :
  Calls Tryz.prog 116 #[.pointer (some ⟨S,0,none⟩),.pointer (some ⟨b,0,none⟩)] w fun e w' => e = zah 8 0 ∧ Below w.heap.size w w':=by
 have h1:=zbG X
 have t : (k.steps == 100000) = false:=by simpa using e
 go_enter Tryz.func116,Tryz.ntmps116
 go_wp2_with (first
  | (go_at_call 134; (with_reducible refine h1.mono ?_); rintro e wx ⟨rfl,hww⟩; have hw2:=hww.symm; subst hw2)
  | (go_at_call 135; (with_reducible refine h.mono ?_); rintro e wy ⟨rfl,hby⟩))
 all_goals go_wp2
 exact ⟨rfl,rfl,rfl,rfl,hby⟩
end Go.Proofs.YtfpgjkbjbbgciaaGreatDoor
