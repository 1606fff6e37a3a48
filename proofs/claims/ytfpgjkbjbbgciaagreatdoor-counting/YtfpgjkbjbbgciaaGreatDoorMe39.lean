import Derived.Test.YtfpgjkbjbbgciaaGreatDoorMe37
import Derived.Test.YtfpgjkbjbbgciaaGreatDoorMe38
import Derived.Lib.SliceRun
set_option maxRecDepth 100000
set_option maxHeartbeats 8000000
namespace Go.Proofs.YtfpgjkbjbbgciaaGreatDoor
open Go.RowKit Sp
theorem zrS {w : World} {b : Nat} {bv : Value} {k : Kn} (h : KnM w b bv k) (r : Nat) (hr : r < 8) (s : Nat) (hs : s < 8) (t : Nat) (ht : t < 8) (h0 : 0 ≤ k.steps) (h1 : k.steps ≤ 100000) (n0 : 0 ≤ k.next) (n1 : k.next ≤ 100000) :
  Calls Tryz.prog 233 #[.agg #[.int .i64 (r : Int),.int .i64 (s : Int),.int .i64 (t : Int)],.pointer (some ⟨b,0,none⟩)] w (zaP w b bv ({ k with regs:=updR k.regs r ((k.regs s).plus (k.regs t)) }.goTo (k.next + 1))):=by
 have hlt:=h.lt
 have r0 : (0 : Int) ≤ (r : Int):=by omega
 have r1 : (r : Int) < 8:=by omega
 have s0 : (0 : Int) ≤ (s : Int):=by omega
 have s1 : (s : Int) < 8:=by omega
 have t0 : (0 : Int) ≤ (t : Int):=by omega
 have t1 : (t : Int) < 8:=by omega
 obtain ⟨A,hA⟩ : ∃ A,w.alloc (.cells #[.int .i64 (r : Int),.int .i64 (s : Int),.int .i64 (t : Int)] 171) = A:=⟨_,rfl⟩
 have HB : ∀ W,Below A.heap.size A W → KnM W b bv k:=fun W hW => by subst hA; exact (h.alloc _).below hW (by simp; omega)
 have HF : ∀ W,Below A.heap.size A W → (W.cell? ⟨w.heap.size,0,none⟩ = some (.int .i64 (r : Int)) ∧ W.cell? ⟨w.heap.size,1,none⟩ = some (.int .i64 (s : Int)) ∧ W.cell? ⟨w.heap.size,2,none⟩ = some (.int .i64 (t : Int))) ∧ (W.cell? ⟨b,s * 2,none⟩ = some (.int .i64 (k.regs s).lo) ∧ W.cell? ⟨b,s * 2 + 1,none⟩ = some (.int .i64 (k.regs s).hi)) ∧ (W.cell? ⟨b,t * 2,none⟩ = some (.int .i64 (k.regs t).lo) ∧ W.cell? ⟨b,t * 2 + 1,none⟩ = some (.int .i64 (k.regs t).hi)):=fun W hW => ⟨by subst hA; exact ⟨za4 hW 0,za4 hW 1,za4 hW 2⟩,(HB W hW).cR s hs,(HB W hW).cR t ht⟩
 go_enter Tryz.func233,Tryz.ntmps233
 go_wp2
 refine zac 20 (fun W => Below A.heap.size A W) (Below.refl _ _).drew (by kernel_rfl) (by kernel_rfl) ?_
 simp only [List.take_succ_cons,List.take_zero,List.drop_succ_cons,List.drop_zero]
 repeat (refine zab rfl ?_ (fun W hW => ?_) ?_; rotate_left 1; · (obtain ⟨⟨f0,f1,f2⟩,⟨gs,es⟩,⟨gt,et⟩⟩:=HF W hW; go_simp; with_reducible rfl))
 refine zaK rfl 234 #[rv (k.regs s),rv (k.regs t)] (rv ((k.regs s).plus (k.regs t))) (fun W hW => ?_) (fun W hW => (znF _ _ W).mono (fun e w' hh => ⟨hh.1,hW.trans (hh.2.mono hW.size)⟩)) ?_
 ·go_simp
 repeat (refine zab rfl ?_ (fun W hW => ?_) ?_; rotate_left 1; · (obtain ⟨⟨f0,f1,f2⟩,⟨gs,es⟩,⟨gt,et⟩⟩:=HF W hW; go_simp; with_reducible rfl))
 refine wpQuiet_nil ?_
 intro W hW
 have hK:=HB W hW
 have c0:=(hK.cR r hr).1
 have c1:=(hK.cR r hr).2
 have z0:=hK.fz (r * 2)
 have z1:=hK.fz (r * 2 + 1)
 have hKK:=hK.putR r hr ((k.regs s).plus (k.regs t))
 go_wp2_with (go_at_call 227; (with_reducible refine (zbV hKK h0 h1 n0 n1).mono ?_); intro e w6 hw6; have hw7:=zeg (hA ▸ hW) hw6; clear hw6; obtain ⟨g,rfl,hg,hc,hk,hgr⟩:=hw7)
 go_ret
 exact ⟨g,rfl,hg,hc,hk,hgr⟩
theorem zrT {w : World} {b : Nat} {bv : Value} {k : Kn} (h : KnM w b bv k) (K : KnOk k) (r : Nat) (hr : r < 8) (s : Nat) (hs : s < 8) (t : Nat) (ht : t < 8) (h0 : 0 ≤ k.steps) (h1 : k.steps ≤ 100000) (n0 : 0 ≤ k.next) (n1 : k.next ≤ 100000) :
  Calls Tryz.prog 244 #[.agg #[.int .i64 (r : Int),.int .i64 (s : Int),.int .i64 (t : Int)],.pointer (some ⟨b,0,none⟩)] w (zaP w b bv ({ k with regs:=updR k.regs r ((k.regs s).times (k.regs t)) }.goTo (k.next + 1))):=by
 have hlt:=h.lt
 have r0 : (0 : Int) ≤ (r : Int):=by omega
 have r1 : (r : Int) < 8:=by omega
 have s0 : (0 : Int) ≤ (s : Int):=by omega
 have s1 : (s : Int) < 8:=by omega
 have t0 : (0 : Int) ≤ (t : Int):=by omega
 have t1 : (t : Int) < 8:=by omega
 obtain ⟨A,hA⟩ : ∃ A,w.alloc (.cells #[.int .i64 (r : Int),.int .i64 (s : Int),.int .i64 (t : Int)] 173) = A:=⟨_,rfl⟩
 have HB : ∀ W,Below A.heap.size A W → KnM W b bv k:=fun W hW => by subst hA; exact (h.alloc _).below hW (by simp; omega)
 have HF : ∀ W,Below A.heap.size A W → (W.cell? ⟨w.heap.size,0,none⟩ = some (.int .i64 (r : Int)) ∧ W.cell? ⟨w.heap.size,1,none⟩ = some (.int .i64 (s : Int)) ∧ W.cell? ⟨w.heap.size,2,none⟩ = some (.int .i64 (t : Int))) ∧ (W.cell? ⟨b,s * 2,none⟩ = some (.int .i64 (k.regs s).lo) ∧ W.cell? ⟨b,s * 2 + 1,none⟩ = some (.int .i64 (k.regs s).hi)) ∧ (W.cell? ⟨b,t * 2,none⟩ = some (.int .i64 (k.regs t).lo) ∧ W.cell? ⟨b,t * 2 + 1,none⟩ = some (.int .i64 (k.regs t).hi)):=fun W hW => ⟨by subst hA; exact ⟨za4 hW 0,za4 hW 1,za4 hW 2⟩,(HB W hW).cR s hs,(HB W hW).cR t ht⟩
 go_enter Tryz.func244,Tryz.ntmps244
 go_wp2
 refine zac 20 (fun W => Below A.heap.size A W) (Below.refl _ _).drew (by kernel_rfl) (by kernel_rfl) ?_
 simp only [List.take_succ_cons,List.take_zero,List.drop_succ_cons,List.drop_zero]
 repeat (refine zab rfl ?_ (fun W hW => ?_) ?_; rotate_left 1; · (obtain ⟨⟨f0,f1,f2⟩,⟨gs,es⟩,⟨gt,et⟩⟩:=HF W hW; go_simp; with_reducible rfl))
 refine zaK rfl 245 #[rv (k.regs s),rv (k.regs t)] (rv ((k.regs s).times (k.regs t))) (fun W hW => ?_) (fun W hW => (zrA _ _ W (K.regs s hs) (K.regs t ht)).mono (fun e w' hh => ⟨hh.1,hW.trans (hh.2.mono hW.size)⟩)) ?_
 ·go_simp
 repeat (refine zab rfl ?_ (fun W hW => ?_) ?_; rotate_left 1; · (obtain ⟨⟨f0,f1,f2⟩,⟨gs,es⟩,⟨gt,et⟩⟩:=HF W hW; go_simp; with_reducible rfl))
 refine wpQuiet_nil ?_
 intro W hW
 have hK:=HB W hW
 have c0:=(hK.cR r hr).1
 have c1:=(hK.cR r hr).2
 have z0:=hK.fz (r * 2)
 have z1:=hK.fz (r * 2 + 1)
 have hKK:=hK.putR r hr ((k.regs s).times (k.regs t))
 go_wp2_with (go_at_call 227; (with_reducible refine (zbV hKK h0 h1 n0 n1).mono ?_); intro e w6 hw6; have hw7:=zeg (hA ▸ hW) hw6; clear hw6; obtain ⟨g,rfl,hg,hc,hk,hgr⟩:=hw7)
 go_ret
 exact ⟨g,rfl,hg,hc,hk,hgr⟩
theorem zrU {w : World} {b : Nat} {bv : Value} {k : Kn} (h : KnM w b bv k) (r : Nat) (hr : r < 8) (n : Int) (h0 : 0 ≤ k.steps) (h1 : k.steps ≤ 100000) (n0 : 0 ≤ k.next) (n1 : k.next ≤ 100000) :
  Calls Tryz.prog 250 #[.agg #[.int .i64 (r : Int),.int .i64 n],.pointer (some ⟨b,0,none⟩)] w (zaP w b bv ({ k with regs:=updR k.regs r ((k.regs r).plus (only n)) }.goTo (k.next + 1))):=by
 have hlt:=h.lt
 have r0 : (0 : Int) ≤ (r : Int):=by omega
 have r1 : (r : Int) < 8:=by omega
 obtain ⟨A,hA⟩ : ∃ A,w.alloc (.cells #[.int .i64 (r : Int),.int .i64 n] 174) = A:=⟨_,rfl⟩
 have HB : ∀ W,Below A.heap.size A W → KnM W b bv k:=fun W hW => by subst hA; exact (h.alloc _).below hW (by simp; omega)
 have HF : ∀ W,Below A.heap.size A W → (W.cell? ⟨w.heap.size,0,none⟩ = some (.int .i64 (r : Int)) ∧ W.cell? ⟨w.heap.size,1,none⟩ = some (.int .i64 n)) ∧ (W.cell? ⟨b,r * 2,none⟩ = some (.int .i64 (k.regs r).lo) ∧ W.cell? ⟨b,r * 2 + 1,none⟩ = some (.int .i64 (k.regs r).hi)):=fun W hW => ⟨by subst hA; exact ⟨za4 hW 0,za4 hW 1⟩,(HB W hW).cR r hr⟩
 go_enter Tryz.func250,Tryz.ntmps250
 go_wp2
 refine zac 16 (fun W => Below A.heap.size A W) (Below.refl _ _).drew (by kernel_rfl) (by kernel_rfl) ?_
 simp only [List.take_succ_cons,List.take_zero,List.drop_succ_cons,List.drop_zero]
 repeat (refine zab rfl ?_ (fun W hW => ?_) ?_; rotate_left 1; · (obtain ⟨⟨f0,f1⟩,⟨gr,er⟩⟩:=HF W hW; go_simp; with_reducible rfl))
 refine zaK rfl 226 #[.int .i64 n] (rv (only n)) (fun W hW => ?_) (fun W hW => (zgH n W).mono (fun e w' hh => ⟨hh.1,hW.trans (hh.2.mono hW.size)⟩)) ?_
 ·go_simp
 repeat (refine zab rfl ?_ (fun W hW => ?_) ?_; rotate_left 1; · (obtain ⟨⟨f0,f1⟩,⟨gr,er⟩⟩:=HF W hW; go_simp; with_reducible rfl))
 refine zaK rfl 234 #[rv (k.regs r),rv (only n)] (rv ((k.regs r).plus (only n))) (fun W hW => ?_) (fun W hW => (znF _ _ W).mono (fun e w' hh => ⟨hh.1,hW.trans (hh.2.mono hW.size)⟩)) ?_
 ·go_simp
 repeat (refine zab rfl ?_ (fun W hW => ?_) ?_; rotate_left 1; · (obtain ⟨⟨f0,f1⟩,⟨gr,er⟩⟩:=HF W hW; go_simp; with_reducible rfl))
 refine wpQuiet_nil ?_
 intro W hW
 have hK:=HB W hW
 have c0:=(hK.cR r hr).1
 have c1:=(hK.cR r hr).2
 have z0:=hK.fz (r * 2)
 have z1:=hK.fz (r * 2 + 1)
 have hKK:=hK.putR r hr ((k.regs r).plus (only n))
 go_wp2_with (go_at_call 227; (with_reducible refine (zbV hKK h0 h1 n0 n1).mono ?_); intro e w6 hw6; have hw7:=zeg (hA ▸ hW) hw6; clear hw6; obtain ⟨g,rfl,hg,hc,hk,hgr⟩:=hw7)
 go_ret
 exact ⟨g,rfl,hg,hc,hk,hgr⟩
theorem zpw {w : World} {b : Nat} {bv : Value} {k : Kn} (h : KnM w b bv k) (r : Nat) (hr : r < 8) (h0 : 0 ≤ k.steps) (h1 : k.steps ≤ 100000) (n0 : 0 ≤ k.next) (n1 : k.next ≤ 100000) :
  Calls Tryz.prog 260 #[.agg #[.int .i64 (r : Int)],.pointer (some ⟨b,0,none⟩)] w (zaP w b bv ({ k with regs:=updR k.regs r (anyR) }.goTo (k.next + 1))):=by
 have hlt:=h.lt
 have r0 : (0 : Int) ≤ (r : Int):=by omega
 have r1 : (r : Int) < 8:=by omega
 obtain ⟨A,hA⟩ : ∃ A,w.alloc (.cells #[.int .i64 (r : Int)] 180) = A:=⟨_,rfl⟩
 have HB : ∀ W,Below A.heap.size A W → KnM W b bv k:=fun W hW => by subst hA; exact (h.alloc _).below hW (by simp; omega)
 have HF : ∀ W,Below A.heap.size A W → (W.cell? ⟨w.heap.size,0,none⟩ = some (.int .i64 (r : Int))):=fun W hW => (by subst hA; exact za4 hW 0)
 go_enter Tryz.func260,Tryz.ntmps260
 go_wp2
 refine zac 6 (fun W => Below A.heap.size A W) (Below.refl _ _).drew (by kernel_rfl) (by kernel_rfl) ?_
 simp only [List.take_succ_cons,List.take_zero,List.drop_succ_cons,List.drop_zero]
 repeat (refine zab rfl ?_ (fun W hW => ?_) ?_; rotate_left 1; · (obtain f0:=HF W hW; go_simp; with_reducible rfl))
 refine zaK rfl 238 #[] (rv anyR) (fun W hW => ?_) (fun W hW => (zhB W).mono (fun e w' hh => ⟨hh.1,hW.trans (hh.2.mono hW.size)⟩)) ?_
 ·go_simp
 repeat (refine zab rfl ?_ (fun W hW => ?_) ?_; rotate_left 1; · (obtain f0:=HF W hW; go_simp; with_reducible rfl))
 refine wpQuiet_nil ?_
 intro W hW
 have hK:=HB W hW
 have c0:=(hK.cR r hr).1
 have c1:=(hK.cR r hr).2
 have z0:=hK.fz (r * 2)
 have z1:=hK.fz (r * 2 + 1)
 have hKK:=hK.putR r hr (anyR)
 go_wp2_with (go_at_call 227; (with_reducible refine (zbV hKK h0 h1 n0 n1).mono ?_); intro e w6 hw6; have hw7:=zeg (hA ▸ hW) hw6; clear hw6; obtain ⟨g,rfl,hg,hc,hk,hgr⟩:=hw7)
 go_ret
 exact ⟨g,rfl,hg,hc,hk,hgr⟩
theorem zrV {w : World} {b : Nat} {bv : Value} {k : Kn} (h : KnM w b bv k) (r : Nat) (hr : r < 8) (s : Nat) (hs : s < 8) (h0 : 0 ≤ k.steps) (h1 : k.steps ≤ 100000) (n0 : 0 ≤ k.next) (n1 : k.next ≤ 100000) :
  Calls Tryz.prog 231 #[.agg #[.int .i64 (r : Int),.int .i64 (s : Int)],.pointer (some ⟨b,0,none⟩)] w (zaP w b bv ({ k with regs:=updR k.regs r (k.regs s) }.goTo (k.next + 1))):=by
 have hlt:=h.lt
 have r0 : (0 : Int) ≤ (r : Int):=by omega
 have r1 : (r : Int) < 8:=by omega
 have s0 : (0 : Int) ≤ (s : Int):=by omega
 have s1 : (s : Int) < 8:=by omega
 obtain ⟨A,hA⟩ : ∃ A,w.alloc (.cells #[.int .i64 (r : Int),.int .i64 (s : Int)] 169) = A:=⟨_,rfl⟩
 have HB : ∀ W,Below A.heap.size A W → KnM W b bv k:=fun W hW => by subst hA; exact (h.alloc _).below hW (by simp; omega)
 have HF : ∀ W,Below A.heap.size A W → (W.cell? ⟨w.heap.size,0,none⟩ = some (.int .i64 (r : Int)) ∧ W.cell? ⟨w.heap.size,1,none⟩ = some (.int .i64 (s : Int))) ∧ (W.cell? ⟨b,s * 2,none⟩ = some (.int .i64 (k.regs s).lo) ∧ W.cell? ⟨b,s * 2 + 1,none⟩ = some (.int .i64 (k.regs s).hi)):=fun W hW => ⟨by subst hA; exact ⟨za4 hW 0,za4 hW 1⟩,(HB W hW).cR s hs⟩
 go_enter Tryz.func231,Tryz.ntmps231
 go_wp2
 refine zac 12 (fun W => Below A.heap.size A W) (Below.refl _ _).drew (by kernel_rfl) (by kernel_rfl) ?_
 simp only [List.take_succ_cons,List.take_zero,List.drop_succ_cons,List.drop_zero]
 repeat (refine zab rfl ?_ (fun W hW => ?_) ?_; rotate_left 1; · (obtain ⟨⟨f0,f1⟩,⟨gs,es⟩⟩:=HF W hW; go_simp; with_reducible rfl))
 refine wpQuiet_nil ?_
 intro W hW
 have hK:=HB W hW
 have c0:=(hK.cR r hr).1
 have c1:=(hK.cR r hr).2
 have z0:=hK.fz (r * 2)
 have z1:=hK.fz (r * 2 + 1)
 have hKK:=hK.putR r hr (k.regs s)
 go_wp2_with (go_at_call 227; (with_reducible refine (zbV hKK h0 h1 n0 n1).mono ?_); intro e w6 hw6; have hw7:=zeg (hA ▸ hW) hw6; clear hw6; obtain ⟨g,rfl,hg,hc,hk,hgr⟩:=hw7)
 go_ret
 exact ⟨g,rfl,hg,hc,hk,hgr⟩
def zaW (f g : Nat → Rg) (j : Nat) : Nat → Rg:=fun i => if i < j then (f i).or (g i) else f i
theorem zhS (f g : Nat → Rg) : zaW f g 0 = f:=by funext i; simp [zaW]
theorem zll (f g : Nat → Rg) (j : Nat) : zaW f g j j = f j:=by simp [zaW]
theorem zhT (f g : Nat → Rg) (j : Nat) : updR (zaW f g j) j ((f j).or (g j)) = zaW f g (j + 1):=by
 funext i
 unfold updR zaW
 by_cases e : i = j
 ·subst e; rw [if_pos rfl,if_pos (by omega)]
 ·rw [if_neg e]
  by_cases e2 : i < j
  ·rw [if_pos e2,if_pos (by omega)]
  ·rw [if_neg e2,if_neg (by omega)]
theorem KnM.like {w : World} {b : Nat} {bv : Value} {k k2 : Kn} (h : KnM w b bv k) (h1 : ∀ r,r < 8 → k2.regs r = k.regs r) (h2 : ∀ c,c < 16 → k2.cells c = k.cells c) (h3 : k2.next = k.next) (h4 : k2.steps = k.steps) : KnM w b bv k2 :=
 ⟨fun r hr => by rw [h1 r hr]; exact h.cR r hr,fun c hc => by rw [h2 c hc]; exact h.cC c hc,by rw [h3]; exact h.cN,h.cB,by rw [h4]; exact h.cS,h.fz⟩
theorem zwG {w : World} {b : Nat} {bv : Value} {k o : Kn} (h : KnM w b bv { k with regs:=zaW k.regs o.regs 8,cells:=zaW k.cells o.cells 16 }) : KnM w b bv (zeX k o) :=
 h.like (fun r hr => by show _ = zaW k.regs o.regs 8 r; unfold zaW; rw [if_pos hr]; rfl) (fun r hr => by show _ = zaW k.cells o.cells 16 r; unfold zaW; rw [if_pos hr]; rfl) rfl rfl
structure JnM (w wr : World) (b c : Nat) (bv cv : Value) (k o : Kn) : Prop where
 kn : KnM wr b bv k
 ot : KnM wr c cv o
 low : w.grownBy wr (some b)
theorem JnM.below {w wr wy : World} {b c : Nat} {bv cv : Value} {k o : Kn} (L : JnM w wr b c bv cv k o) (hb : Below wr.heap.size wr wy) : JnM w wy b c bv cv k o :=
 ⟨L.kn.below hb L.kn.lt,L.ot.below hb L.ot.lt,zad L.low ⟨hb.os,hb.tape,hb.output,hb.size,fun q hq _ => hb.block q hq⟩⟩
theorem KnM.other {w : World} {b c n : Nat} {v cv : Value} {o : Kn} (h : KnM w c cv o) (hne : ¬ c = b) : KnM (w.setCell ⟨b,n,none⟩ v) c cv o:=h.block (Below.heap_setCell w _ _ c hne)
theorem JnM.putR {w wr : World} {b c : Nat} {bv cv : Value} {k o : Kn} (L : JnM w wr b c bv cv k o) (hne : ¬ c = b) (a : Nat) (ha : a < 8) (u : Rg) : JnM w ((wr.setCell ⟨b,a * 2,none⟩ (.int .i64 u.lo)).setCell ⟨b,a * 2 + 1,none⟩ (.int .i64 u.hi)) b c bv cv { k with regs:=updR k.regs a u } o :=
 ⟨L.kn.putR a ha u,(L.ot.other hne).other hne,zad L.low (zad (zai (Below.refl _ _)) (zai (Below.refl _ _)))⟩
theorem JnM.putC {w wr : World} {b c : Nat} {bv cv : Value} {k o : Kn} (L : JnM w wr b c bv cv k o) (hne : ¬ c = b) (a : Nat) (ha : a < 16) (u : Rg) : JnM w ((wr.setCell ⟨b,16 + a * 2,none⟩ (.int .i64 u.lo)).setCell ⟨b,16 + a * 2 + 1,none⟩ (.int .i64 u.hi)) b c bv cv { k with cells:=updR k.cells a u } o :=
 ⟨L.kn.putC a ha u,(L.ot.other hne).other hne,zad L.low (zad (zai (Below.refl _ _)) (zai (Below.refl _ _)))⟩
theorem zey {w wx : World} {cs : Array Value} {t : TypeId} (hbx : Below (w.alloc (.cells cs t)).heap.size (w.alloc (.cells cs t)) wx) (j : Nat) : wx.cell? ⟨w.heap.size,j,none⟩ = cs[j]? :=
 (World.cell?_of_block (a:=⟨w.heap.size,j,none⟩) (hbx.block w.heap.size (by simp))).trans (World.cell?_alloc_new _ _ _ j)
theorem Tryz.size214 : (Tryz.prog.info? 214).map (·.size) = some 16:=by kernel_rfl
theorem Tryz.size215 : (Tryz.prog.info? 215).map (·.size) = some 32:=by kernel_rfl
theorem Tryz.row214 : Tryz.prog.underlying 214 = some (.array 8 213):=by kernel_rfl
theorem Tryz.row215 : Tryz.prog.underlying 215 = some (.array 16 213):=by kernel_rfl
theorem zsi {w : World} {b c : Nat} {bv cv : Value} {k o : Kn} (h : KnM w b bv k) (h2 : KnM w c cv o) (hne : ¬ c = b) : Calls Tryz.prog 142 #[.pointer (some ⟨b,0,none⟩),.pointer (some ⟨c,0,none⟩)] w (zkQ w b bv (zeX k o)):=by
 have hr:=h2.rowR
 have L0 : JnM w w b c bv cv { k with regs:=zaW k.regs o.regs 0 } o:=by rw [zhS]; exact ⟨h,h2,⟨rfl,rfl,rfl,Nat.le_refl _,fun _ _ _ => rfl⟩⟩
 have hi1 : (Tryz.prog.info? 214).map (·.size) = some (rgs o.regs 8).length:=by rw [zdm]; exact Tryz.size214
 have hx:=fun r hr W => znM Tryz.row214 o.regs r hr W
 generalize rgs o.regs 8 = cs at hr hi1 hx
 go_enter Tryz.func142,Tryz.ntmps142
 go_wp2_with (first | (refine wpList_load_mid rfl 214 _ rfl c 0 rfl cs _ hr Tryz.row214 rfl hi1 ?_))
 go_loopw [12] (fun ti wr => ∃ j : Nat,j ≤ 8 ∧ ti = .int .i64 (j : Int) ∧ JnM w wr b c bv cv { k with regs:=zaW k.regs o.regs j } o) (fun ti _ => 8 - (intOf ti).toNat)
 case atStart => exact ⟨0,by omega,rfl,L0⟩
 case round =>
  obtain ⟨j,hj,rfl,L⟩:=hrel
  by_cases hjn : j < 8
  ·have hxj:=hx j hjn
   have hj0 : (0 : Int) ≤ (j : Int):=by omega
   have hj1 : (j : Int) < 8:=by omega
   have LK:=L.kn.cR j hjn
   have e0 : zaW k.regs o.regs j j = k.regs j:=zll _ _ _
   obtain ⟨A,hA⟩ : ∃ A,wr.alloc (.cells #[.int .i64 (o.regs j).lo,.int .i64 (o.regs j).hi] 213) = A:=⟨_,rfl⟩
   have HL : ∀ W,Below A.heap.size A W → Below wr.heap.size wr W:=fun W hW => by subst hA; exact box1.trans (hW.mono (by simp))
   have HB : ∀ W,Below A.heap.size A W → JnM w W b c bv cv { k with regs:=zaW k.regs o.regs j } o:=fun W hW => L.below (HL W hW)
   have HF : ∀ W,Below A.heap.size A W → (W.cell? ⟨wr.heap.size,0,none⟩ = some (.int .i64 (o.regs j).lo) ∧ W.cell? ⟨wr.heap.size,1,none⟩ = some (.int .i64 (o.regs j).hi)) ∧ (W.cell? ⟨b,j * 2,none⟩ = some (.int .i64 (k.regs j).lo) ∧ W.cell? ⟨b,j * 2 + 1,none⟩ = some (.int .i64 (k.regs j).hi)):=fun W hW => by
    have t:=(HB W hW).kn.cR j hjn
    rw [show ({ k with regs:=zaW k.regs o.regs j } : Kn).regs j = k.regs j from e0] at t
    exact ⟨by subst hA; exact ⟨zey hW 0,zey hW 1⟩,t⟩
   go_wp2
   refine zac 12 (fun W => Below A.heap.size A W) (Below.refl _ _).drew (by kernel_rfl) (by kernel_rfl) ?_
   simp only [List.take_succ_cons,List.take_zero,List.drop_succ_cons,List.drop_zero]
   repeat (refine zab rfl ?_ (fun W hW => ?_) ?_; rotate_left 1; · (obtain ⟨⟨f0,f1⟩,f2,f3⟩:=HF W hW; go_simp; with_reducible rfl))
   refine zaK rfl 156 #[rv (k.regs j),rv (o.regs j)] (rv ((k.regs j).or (o.regs j))) (fun W hW => ?_) (fun W hW => (znD _ _ W).mono (fun e w' hh => ⟨hh.1,hW.trans (hh.2.mono hW.size)⟩)) ?_
   ·go_simp
   repeat (refine zab rfl ?_ (fun W hW => ?_) ?_; rotate_left 1; · (obtain ⟨⟨f0,f1⟩,f2,f3⟩:=HF W hW; go_simp; with_reducible rfl))
   refine wpQuiet_nil ?_
   intro W hW
   have LW:=HB W hW
   obtain ⟨_,c0,c1⟩:=HF W hW
   have z0:=LW.kn.fz (j * 2)
   have z1:=LW.kn.fz (j * 2 + 1)
   have LP:=LW.putR hne j hjn ((k.regs j).or (o.regs j))
   have LQ : JnM w ((W.setCell ⟨b,j * 2,none⟩ (.int .i64 ((k.regs j).or (o.regs j)).lo)).setCell ⟨b,j * 2 + 1,none⟩ (.int .i64 ((k.regs j).or (o.regs j)).hi)) b c bv cv { k with regs:=zaW k.regs o.regs (j + 1) } o:=by
    have e : updR (zaW k.regs o.regs j) j ((k.regs j).or (o.regs j)) = zaW k.regs o.regs (j + 1):=zhT _ _ _
    rw [← e]
    exact LP
   clear LP LW
   go_wp2
   exact ⟨⟨j + 1,by omega,by go_num,LQ⟩,by simp [intOf]; omega⟩
  ·obtain rfl : j = 8:=by omega
   have hr2:=L.ot.rowC
   have L2 : JnM w wr b c bv cv { k with regs:=zaW k.regs o.regs 8,cells:=zaW k.cells o.cells 0 } o:=by rw [zhS]; exact L
   have hi2 : (Tryz.prog.info? 215).map (·.size) = some (rgs o.cells 16).length:=by rw [zdm]; exact Tryz.size215
   have hx2:=fun r hr W => znM Tryz.row215 o.cells r hr W
   generalize rgs o.cells 16 = ds at hr2 hi2 hx2
   clear L L0
   go_wp2_with (first | (refine wpList_load_mid rfl 215 _ rfl c 16 rfl ds _ hr2 Tryz.row215 rfl hi2 ?_))
   go_loopw [34] (fun ti wr => ∃ j : Nat,j ≤ 16 ∧ ti = .int .i64 (j : Int) ∧ JnM w wr b c bv cv { k with regs:=zaW k.regs o.regs 8,cells:=zaW k.cells o.cells j } o) (fun ti _ => 16 - (intOf ti).toNat)
   case atStart => exact ⟨0,by omega,rfl,L2⟩
   case round =>
    obtain ⟨j,hj,rfl,L⟩:=hrel
    by_cases hjn : j < 16
    ·have hxj:=hx2 j hjn
     have hj0 : (0 : Int) ≤ (j : Int):=by omega
     have hj1 : (j : Int) < 16:=by omega
     have LK:=L.kn.cC j hjn
     have e0 : zaW k.cells o.cells j j = k.cells j:=zll _ _ _
     obtain ⟨A,hA⟩ : ∃ A,wr.alloc (.cells #[.int .i64 (o.cells j).lo,.int .i64 (o.cells j).hi] 213) = A:=⟨_,rfl⟩
     have HL : ∀ W,Below A.heap.size A W → Below wr.heap.size wr W:=fun W hW => by subst hA; exact box1.trans (hW.mono (by simp))
     have HB : ∀ W,Below A.heap.size A W → JnM w W b c bv cv { k with regs:=zaW k.regs o.regs 8,cells:=zaW k.cells o.cells j } o:=fun W hW => L.below (HL W hW)
     have HF : ∀ W,Below A.heap.size A W → (W.cell? ⟨wr.heap.size,0,none⟩ = some (.int .i64 (o.cells j).lo) ∧ W.cell? ⟨wr.heap.size,1,none⟩ = some (.int .i64 (o.cells j).hi)) ∧ (W.cell? ⟨b,16 + j * 2,none⟩ = some (.int .i64 (k.cells j).lo) ∧ W.cell? ⟨b,16 + j * 2 + 1,none⟩ = some (.int .i64 (k.cells j).hi)):=fun W hW => by
      have t:=(HB W hW).kn.cC j hjn
      rw [show ({ k with regs:=zaW k.regs o.regs 8,cells:=zaW k.cells o.cells j } : Kn).cells j = k.cells j from e0] at t
      exact ⟨by subst hA; exact ⟨zey hW 0,zey hW 1⟩,t⟩
     go_wp2
     refine zac 12 (fun W => Below A.heap.size A W) (Below.refl _ _).drew (by kernel_rfl) (by kernel_rfl) ?_
     simp only [List.take_succ_cons,List.take_zero,List.drop_succ_cons,List.drop_zero]
     repeat (refine zab rfl ?_ (fun W hW => ?_) ?_; rotate_left 1; · (obtain ⟨⟨f0,f1⟩,f2,f3⟩:=HF W hW; go_simp; with_reducible rfl))
     refine zaK rfl 156 #[rv (k.cells j),rv (o.cells j)] (rv ((k.cells j).or (o.cells j))) (fun W hW => ?_) (fun W hW => (znD _ _ W).mono (fun e w' hh => ⟨hh.1,hW.trans (hh.2.mono hW.size)⟩)) ?_
     ·go_simp
     repeat (refine zab rfl ?_ (fun W hW => ?_) ?_; rotate_left 1; · (obtain ⟨⟨f0,f1⟩,f2,f3⟩:=HF W hW; go_simp; with_reducible rfl))
     refine wpQuiet_nil ?_
     intro W hW
     have LW:=HB W hW
     obtain ⟨_,c0,c1⟩:=HF W hW
     have z0:=LW.kn.fz (16 + j * 2)
     have z1:=LW.kn.fz (16 + j * 2 + 1)
     have LP:=LW.putC hne j hjn ((k.cells j).or (o.cells j))
     have LQ : JnM w ((W.setCell ⟨b,16 + j * 2,none⟩ (.int .i64 ((k.cells j).or (o.cells j)).lo)).setCell ⟨b,16 + j * 2 + 1,none⟩ (.int .i64 ((k.cells j).or (o.cells j)).hi)) b c bv cv { k with regs:=zaW k.regs o.regs 8,cells:=zaW k.cells o.cells (j + 1) } o:=by
      have e : updR (zaW k.cells o.cells j) j ((k.cells j).or (o.cells j)) = zaW k.cells o.cells (j + 1):=zhT _ _ _
      rw [← e]
      exact LP
     clear LP LW
     go_wp2
     exact ⟨⟨j + 1,by omega,by go_num,LQ⟩,by simp [intOf]; omega⟩
    ·obtain rfl : j = 16:=by omega
     go_wp2
     refine bodyPost_end (results_none rfl _ _ _) rfl ⟨rfl,zwG L.kn,L.low⟩
theorem zgI {w wx : World} {o : Obj} {cs : Array Value} {t : TypeId} (hbx : Below ((w.alloc o).alloc (.cells cs t)).heap.size ((w.alloc o).alloc (.cells cs t)) wx) (j : Nat) : wx.frozen? ⟨w.heap.size + 1,j,none⟩ = false:=by
 have e:=World.frozen?_of_block (a:=⟨w.heap.size + 1,j,none⟩) (hbx.block (w.heap.size + 1) (by simp))
 rw [e]
 exact World.frozen?_alloc_at _ _ _ _ (by simp)
theorem ziU {w wx : World} {o : Obj} {cs : Array Value} {t : TypeId} (hbx : Below ((w.alloc (.cells cs t)).alloc o).heap.size ((w.alloc (.cells cs t)).alloc o) wx) (j : Nat) : wx.cell? ⟨w.heap.size,j,none⟩ = cs[j]? :=
 (World.cell?_of_block (a:=⟨w.heap.size,j,none⟩) ((hbx.block w.heap.size (by simp; omega)).trans (Below.heap_alloc _ _ _ (by simp)))).trans (World.cell?_alloc_new _ _ _ j)
def subR (k : Kn) (s t : Nat) : Rg:=if s = t then only 0 else (k.regs s).minus (k.regs t)
theorem zrW {w : World} {b : Nat} {k : Kn} (r s : Nat) : Calls Tryz.prog 241 #[.agg #[.int .i64 (r : Int),.int .i64 (s : Int),.int .i64 (s : Int)],.pointer (some ⟨b,0,none⟩)] w fun e w' => e = .returned (rv (subR k s s)) ∧ Below w.heap.size w w':=by
 have e0 : subR k s s = only 0:=if_pos rfl
 rw [e0]
 go_enter Tryz.func241,Tryz.ntmps241
 go_wp2_with (go_at_call 226; (with_reducible refine (zgH 0 _).mono ?_); rintro e wx ⟨rfl,hbx⟩; have c0 : wx.cell? ⟨w.heap.size + 1,0,none⟩ = some (.int .i64 0):=zdd hbx 0; have c1 : wx.cell? ⟨w.heap.size + 1,1,none⟩ = some (.int .i64 0):=zdd hbx 1; have z0:=zgI hbx 0; have z1:=zgI hbx 1)
 exact zb2 (r:=only 0) Tryz.results241 rfl rfl (zar c0 c1).1 (zar c0 c1).2 ⟨rfl,zaw (box2.trans (hbx.mono (by simp; omega))) (by omega)⟩
theorem zpx {w : World} {b : Nat} {bv : Value} {k : Kn} (h : KnM w b bv k) (r s : Nat) (hs : s < 8) (t : Nat) (ht : t < 8) (hne : ¬ s = t) : Calls Tryz.prog 241 #[.agg #[.int .i64 (r : Int),.int .i64 (s : Int),.int .i64 (t : Int)],.pointer (some ⟨b,0,none⟩)] w fun e w' => e = .returned (rv (subR k s t)) ∧ Below w.heap.size w w':=by
 have e0 : subR k s t = (k.regs s).minus (k.regs t):=if_neg hne
 rw [e0]
 have hlt:=h.lt
 have s0 : (0 : Int) ≤ (s : Int):=by omega
 have s1 : (s : Int) < 8:=by omega
 have u0 : (0 : Int) ≤ (t : Int):=by omega
 have u1 : (t : Int) < 8:=by omega
 have t0 : ((s : Int) == (t : Int)) = false:=by simpa using (by omega : ¬ (s : Int) = (t : Int))
 obtain ⟨A,hA⟩ : ∃ A,(w.alloc (.cells #[.int .i64 (r : Int),.int .i64 (s : Int),.int .i64 (t : Int)] 172)).alloc (.cells #[.int .i64 0,.int .i64 0] 213) = A:=⟨_,rfl⟩
 have HB : ∀ W,Below A.heap.size A W → KnM W b bv k:=fun W hW => by subst hA; exact ((h.alloc _).alloc _).below hW (by simp; omega)
 have hC : ∀ W,Below A.heap.size A W → W.cell? ⟨w.heap.size + 1,0,none⟩ = some (.int .i64 0) ∧ W.cell? ⟨w.heap.size + 1,1,none⟩ = some (.int .i64 0) ∧ W.frozen? ⟨w.heap.size + 1,0,none⟩ = false ∧ W.frozen? ⟨w.heap.size + 1,1,none⟩ = false:=fun W hW => by subst hA; exact ⟨zdd hW 0,zdd hW 1,zgI hW 0,zgI hW 1⟩
 have hL : ∀ W,Below A.heap.size A W → Below w.heap.size w W:=fun W hW => by subst hA; exact box2.trans (hW.mono (by simp; omega))
 have HF : ∀ W,Below A.heap.size A W → (W.cell? ⟨w.heap.size,1,none⟩ = some (.int .i64 (s : Int)) ∧ W.cell? ⟨w.heap.size,2,none⟩ = some (.int .i64 (t : Int))) ∧ (W.cell? ⟨b,s * 2,none⟩ = some (.int .i64 (k.regs s).lo) ∧ W.cell? ⟨b,s * 2 + 1,none⟩ = some (.int .i64 (k.regs s).hi)) ∧ (W.cell? ⟨b,t * 2,none⟩ = some (.int .i64 (k.regs t).lo) ∧ W.cell? ⟨b,t * 2 + 1,none⟩ = some (.int .i64 (k.regs t).hi)):=fun W hW =>
  ⟨by subst hA; exact ⟨ziU hW 1,ziU hW 2⟩,(HB W hW).cR s hs,(HB W hW).cR t ht⟩
 obtain ⟨⟨f1,f2⟩,_⟩:=HF A (Below.refl _ _)
 go_enter Tryz.func241,Tryz.ntmps241
 go_wp2
 refine zac 15 (fun W => Below A.heap.size A W) (Below.refl _ _).drew (by kernel_rfl) (by kernel_rfl) ?_
 simp only [List.take_succ_cons,List.take_zero,List.drop_succ_cons,List.drop_zero]
 clear f1 f2
 repeat (refine zab rfl ?_ (fun W hW => ?_) ?_; rotate_left 1; · (obtain ⟨⟨f0,f1⟩,⟨f2,f3⟩,f4,f5⟩:=HF W hW; go_simp; with_reducible rfl))
 refine zaK rfl 242 #[rv (k.regs s),rv (k.regs t)] (rv ((k.regs s).minus (k.regs t))) (fun W hW => ?_) (fun W hW => (zr8 _ _ W).mono (fun e w' hh => ⟨hh.1,hW.trans (hh.2.mono hW.size)⟩)) ?_
 ·go_simp
 refine wpQuiet_nil ?_
 intro W hW
 obtain ⟨c0,c1,z0,z1⟩:=hC W hW
 go_wp2
 exact zb2 (r:=(k.regs s).minus (k.regs t)) Tryz.results241 rfl rfl (zar c0 c1).1 (zar c0 c1).2 ⟨rfl,zaw (hL W hW) (by omega)⟩
theorem zuh {w : World} {b : Nat} {bv : Value} {k : Kn} (h : KnM w b bv k) (r s : Nat) (hs : s < 8) (t : Nat) (ht : t < 8) : Calls Tryz.prog 241 #[.agg #[.int .i64 (r : Int),.int .i64 (s : Int),.int .i64 (t : Int)],.pointer (some ⟨b,0,none⟩)] w fun e w' => e = .returned (rv (subR k s t)) ∧ Below w.heap.size w w':=by
 by_cases e : s = t
 ·subst e; exact zrW r s
 ·exact zpx h r s hs t ht e
end Go.Proofs.YtfpgjkbjbbgciaaGreatDoor
namespace Go.Proofs.YtfpgjkbjbbgciaaGreatDoor
open Go.RowKit Sp Go.Lib
theorem zrK {w : World} {S o H cap m p0 pl : Nat} (hc : w.cell? ⟨S,o,none⟩ = some (.slice (some ⟨H,0,none⟩) (m + 1) cap)) (hz : w.frozen? ⟨S,o,none⟩ = false) (hSH : ¬ S = H) (hm : m ≤ 100000) (hcap : m + 1 ≤ cap) (_hcm : cap ≤ maxLen) (c0 : w.cell? ⟨H,0,none⟩ = some (.pointer (some ⟨p0,0,none⟩))) (cl : w.cell? ⟨H,m,none⟩ = some (.pointer (some ⟨pl,0,none⟩))) (fz : ∀ j,w.frozen? ⟨H,j,none⟩ = false) (_hS : S < w.heap.size)
  (Q : World → Prop)
  (hsink : ∀ W,Below w.heap.size (((w.setCell ⟨H,0,none⟩ (.pointer (some ⟨pl,0,none⟩))).setCell ⟨H,m,none⟩ (.pointer none)).setCell ⟨S,o,none⟩ (.slice (some ⟨H,0,none⟩) m cap)) W → Calls Tryz.prog 154 #[.slice (some ⟨H,0,none⟩) m cap,.int .i64 0] W fun e w' => e = .returned (.tuple #[]) ∧ Q w') :
  Calls Tryz.prog 139 #[.pointer (some ⟨S,o,none⟩)] w fun e w' => e = .returned (.pointer (some ⟨p0,0,none⟩)) ∧ Q w':=by
 unfold maxLen at _hcm
 have f0:=fz 0
 have fm:=fz m
 have hHS : ¬ H = S:=fun e => hSH e.symm
 have m0 : (0 : Int) ≤ (m : Int):=by omega
 have l0 : (w.setCell ⟨H,0,none⟩ (.pointer (some ⟨pl,0,none⟩))).cell? ⟨H,m,none⟩ = some (.pointer (some ⟨pl,0,none⟩)):=by
  rw [za1 w H 0 m _ _ c0]
  split
  ·rfl
  ·exact cl
 have l1 : (w.setCell ⟨H,0,none⟩ (.pointer (some ⟨pl,0,none⟩))).frozen? ⟨H,m,none⟩ = false:=zc5.trans fm
 have hc1 : ∀ j,j < 1 → ((w.setCell ⟨H,0,none⟩ (.pointer (some ⟨pl,0,none⟩))).drew.cell? ⟨H,m + j,none⟩).isSome = true:=fun j hj => by
  have e : j = 0:=by omega
  rw [e,Nat.add_zero]
  show ((w.setCell ⟨H,0,none⟩ (.pointer (some ⟨pl,0,none⟩))).cell? ⟨H,m,none⟩).isSome = true
  rw [l0]
  rfl
 have hf1 : ∀ j,j < 1 → (w.setCell ⟨H,0,none⟩ (.pointer (some ⟨pl,0,none⟩))).drew.frozen? ⟨H,m + j,none⟩ = false:=fun j hj => by
  have e : j = 0:=by omega
  rw [e,Nat.add_zero]
  exact l1
 have hzv : ∀ w,(zeroValue 197).run Tryz.prog w = .ok (.pointer none) w:=fun w => by kernel_rfl
 have hclr : (Builtin.clear_ #[151] 0 #[.slice (some ⟨H,m,none⟩) 1 (cap - m)]).run Tryz.prog (w.setCell ⟨H,0,none⟩ (.pointer (some ⟨pl,0,none⟩))).drew = .ok (.tuple #[]) ((w.setCell ⟨H,0,none⟩ (.pointer (some ⟨pl,0,none⟩))).drew.setCell ⟨H,m,none⟩ (.pointer none)) :=
  run_clear_slice _ 151 197 0 (.pointer none) Tryz.under151 hzv rfl rfl H m 1 (cap - m) (by omega) hc1 hf1
 clear hc1 hf1 hzv
 go_enter Tryz.func139,Tryz.ntmps139
 go_wp2
 go_region_held3 (fun W => W.cell? ⟨S,o,none⟩ = some (.slice (some ⟨H,0,none⟩) (m + 1) cap))
  (first | exact hc | go_keep)
  (fail)
 all_goals go_wp2_with (go_at_call 154; (with_reducible refine (hsink _ (Below.refl _ _).drew).mono ?_); rintro e wx ⟨rfl,hQ⟩)
 all_goals go_ret
 all_goals exact ⟨rfl,hQ⟩
def zga (xs : List Wy) (m : Nat) : List Wy:=(xs.set 0 (xs.getD m wy0)).take m
theorem zf1 {xs : List Wy} {m : Nat} (h : xs.length = m + 1) : (zga xs m).length = m:=by simp [zga,h]
theorem znL {xs : List Wy} {m i : Nat} (h : xs.length = m + 1) (hi : i < m) : (zga xs m)[i]? = some (if i = 0 then xs.getD m wy0 else xs.getD i wy0):=by
 unfold zga
 rw [List.getElem?_take_of_lt hi]
 by_cases e : i = 0
 ·subst e; rw [if_pos rfl,List.getElem?_set_self (by omega)]
 ·rw [if_neg e,List.getElem?_set_ne (by omega),List.getElem?_eq_getElem (by omega)]
  simp [List.getD,(by omega : i < xs.length)]
theorem zgb {xs : List Wy} {m : Nat} (h : xs.length = m + 1) : (xs.getD 0 wy0 :: zga xs m).Perm xs:=by
 cases xs with
 | nil => simp at h
 | cons x t =>
  have ht : t.length = m:=by simpa using h
  cases m with
  | zero =>
   have : t = []:=List.eq_nil_of_length_eq_zero ht
   subst this
   simp [zga]
  | succ m =>
   have hne : t ≠ []:=by intro e; rw [e] at ht; simp at ht
   have e1 : (x :: t).getD (m + 1) wy0 = t.getLast hne:=by
    rw [List.getLast_eq_getElem]
    simp [List.getD,ht]
   have e2 : zga (x :: t) (m + 1) = t.getLast hne :: t.dropLast:=by
    unfold zga
    rw [e1,List.set_cons_zero,List.take_succ_cons,List.dropLast_eq_take,ht]
    rfl
   rw [e2]
   show (x :: t.getLast hne :: t.dropLast).Perm (x :: t)
   refine List.Perm.cons x ?_
   have e3 : t.dropLast ++ [t.getLast hne] = t:=List.dropLast_concat_getLast hne
   refine List.Perm.trans (List.perm_append_comm (l₁:=[t.getLast hne]) (l₂:=t.dropLast)) ?_
   rw [e3]
theorem zkY {xs : List Wy} {m : Nat} (h : xs.length = m + 1) : ∀ x ∈ zga xs m,x ∈ xs:=fun _x hx => (zgb h).mem_iff.1 (List.mem_cons_of_mem _ hx)
end Go.Proofs.YtfpgjkbjbbgciaaGreatDoor
namespace Go.Proofs.YtfpgjkbjbbgciaaGreatDoor
open Go.RowKit Sp
theorem ztW {w wx : World} {o : Obj} {b : Nat} {bv : Value} {k : Kn} (f : Rg) (hlt : b < w.heap.size) (hbx : Below ((w.alloc o).alloc (.cells #[.int .i64 0,.int .i64 0] 213)).heap.size ((w.alloc o).alloc (.cells #[.int .i64 0,.int .i64 0] 213)) wx) (hK : KnM wx b bv k) : LdM w (wx.alloc (.cells #[.int .i64 f.lo,.int .i64 f.hi] 213)) b wx.heap.size bv k f:=by
 have hs:=hbx.size
 have e2 : ((w.alloc o).alloc (.cells #[.int .i64 0,.int .i64 0] 213)).heap.size = w.heap.size + 1 + 1:=by simp
 rw [e2] at hs hbx
 have hb2 : Below (w.heap.size + 1 + 1) _ (wx.alloc (.cells #[.int .i64 f.lo,.int .i64 f.hi] 213)):=hbx.alloc hs _
 have cc : ∀ j,(wx.alloc (.cells #[.int .i64 f.lo,.int .i64 f.hi] 213)).cell? ⟨w.heap.size + 1,j,none⟩ = (#[.int .i64 0,.int .i64 0] : Array Value)[j]?:=fun j => by
  have e:=World.cell?_of_block (a:=⟨w.heap.size + 1,j,none⟩) (hb2.block (w.heap.size + 1) (by omega))
  rw [e]
  have:=World.cell?_alloc_new (w:=w.alloc o) #[.int .i64 0,.int .i64 0] 213 j
  rw [World.size_alloc] at this
  exact this
 refine ⟨hK.alloc _,World.cell?_alloc_new _ _ _ 0,World.cell?_alloc_new _ _ _ 1,fun j => World.frozen?_alloc_at _ _ _ _ (by simp),⟨_,cc 0⟩,⟨_,cc 1⟩,fun j => ?_,box2.trans (hb2.mono (by omega)),by simp,by omega,by omega⟩
 have e:=World.frozen?_of_block (a:=⟨w.heap.size + 1,j,none⟩) (hb2.block (w.heap.size + 1) (by omega))
 rw [e]
 exact World.frozen?_alloc_at _ _ _ _ (by simp)
theorem zpj {w : World} {b : Nat} {bv : Value} {k : Kn} (h : KnM w b bv k) : Calls Tryz.prog 254 #[.pointer (some ⟨b,0,none⟩),rv ⟨15,15⟩] w fun e w' => e = .returned (rv (k.cells 15)) ∧ Below w.heap.size w w':=by
 have hlt:=h.lt
 have hT : ∀ (W : World),KnM W b bv k → Calls Tryz.prog 255 #[.pointer (some ⟨b,0,none⟩),rv ⟨15,15⟩] W fun e w' => e = .returned (.slice (some ⟨b,46,none⟩) 1 1) ∧ Below W.heap.size W w':=fun W hW => zdD hW ⟨15,15⟩ ⟨⟨by decide,by decide⟩,⟨by decide,by decide⟩,by decide⟩ (by decide) (by decide)
 go_enter Tryz.func254,Tryz.ntmps254
 go_wp2_with (go_at_call 255; (with_reducible refine (hT _ ((h.alloc _).alloc _)).mono ?_); rintro e wx ⟨rfl,hbx⟩; have hK : KnM wx b bv k:=((h.alloc _).alloc _).below hbx (by simp; omega); have c0 : wx.cell? ⟨b,46,none⟩ = some (.int .i64 (k.cells 15).lo):=(hK.cC 15 (by omega)).1; have c1 : wx.cell? ⟨b,47,none⟩ = some (.int .i64 (k.cells 15).hi):=(hK.cC 15 (by omega)).2)
 have L0:=ztW (k.cells 15) hlt hbx hK
 clear hbx hK c0 c1 hT
 go_loopw [18] (fun ti wr => ti = .int .i64 0 ∧ LdM w wr b wx.heap.size bv k (k.cells 15)) (fun _ _ => 0)
 case atStart => exact ⟨rfl,L0⟩
 case round =>
  obtain ⟨rfl,L⟩:=hrel
  have f0:=L.lo
  have f1:=L.hi
  obtain ⟨x0,s0⟩:=L.r0
  obtain ⟨x1,s1⟩:=L.r1
  have y0:=L.rz 0
  have y1:=L.rz 1
  have hl:=L.low
  clear L L0
  go_wp2
  exact zb2 (r:=k.cells 15) Tryz.results254 rfl rfl (zar s0 s1).1 (zar s0 s1).2 ⟨rfl,zaw hl (by omega)⟩
theorem zrE {w : World} {b : Nat} {bv : Value} {k : Kn} (h : KnM w b bv k) (r : Rg) (hr : r.lo ≤ r.hi) (h0 : 0 ≤ r.lo) (h1 : r.hi ≤ 15) : Calls Tryz.prog 254 #[.pointer (some ⟨b,0,none⟩),rv r] w fun e w' => e = .returned (rv (zbX k.cells r.lo.toNat (r.hi.toNat - r.lo.toNat))) ∧ Below w.heap.size w w':=by
 obtain ⟨lo,hi⟩:=r
 obtain ⟨a,rfl⟩ : ∃ a : Nat,lo = (a : Int):=⟨lo.toNat,by have : 0 ≤ lo:=h0; omega⟩
 obtain ⟨n,rfl⟩ : ∃ n : Nat,hi = (a : Int) + (n : Int):=⟨(hi - a).toNat,by have : (a : Int) ≤ hi:=hr; omega⟩
 have h1' : (a : Int) + (n : Int) ≤ 15:=h1
 have e1 : ((a : Int) + (n : Int)).toNat - ((a : Nat) : Int).toNat = n:=by omega
 have e2 : ((a : Nat) : Int).toNat = a:=by omega
 show Calls Tryz.prog 254 #[.pointer (some ⟨b,0,none⟩),rv ⟨(a : Int),(a : Int) + (n : Int)⟩] w fun e w' => e = .returned (rv (zbX k.cells ((a : Nat) : Int).toNat (((a : Int) + (n : Int)).toNat - ((a : Nat) : Int).toNat))) ∧ Below w.heap.size w w'
 rw [e1,e2]
 by_cases ha : a < 15
 ·exact zpi h a n ha (by omega)
 ·obtain rfl : a = 15:=by omega
  obtain rfl : n = 0:=by omega
  exact zpj h
theorem zrY {w : World} {p : Value} (r : Rg) (hr : r.Ok) (h : ¬ (0 ≤ r.lo ∧ r.hi ≤ 15)) : Calls Tryz.prog 254 #[p,rv r] w fun e w' => e = zah 8 0 ∧ Below w.heap.size w w':=by
 go_enter Tryz.func254,Tryz.ntmps254
 go_wp2_with (go_at_call 255; (with_reducible refine (zgv r hr h).mono ?_); rintro e wx ⟨rfl,hbx⟩)
 exact ⟨rfl,rfl,box2.trans (hbx.mono (by simp; omega))⟩
theorem zpz {w : World} {p : Value} (r v : Rg) (hr : r.Ok) (h : ¬ (0 ≤ r.lo ∧ r.hi ≤ 15)) : Calls Tryz.prog 258 #[p,rv r,rv v] w fun e w' => e = zah 8 0 ∧ Below w.heap.size w w':=by
 go_enter Tryz.func258,Tryz.ntmps258
 go_wp2_with (go_at_call 255; (with_reducible refine (zgv r hr h).mono ?_); rintro e wx ⟨rfl,hbx⟩)
 exact ⟨rfl,rfl,box2.trans (hbx.mono (by simp; omega))⟩
theorem zil {w : World} {b : Nat} {bv : Value} {k : Kn} (h : KnM w b bv k) (r : Nat) (s : Nat) (hs : s < 8) (K : (k.regs s).Ok) (hout : ¬ (0 ≤ (k.regs s).lo ∧ (k.regs s).hi ≤ 15)) :
  Calls Tryz.prog 252 #[.agg #[.int .i64 (r : Int),.int .i64 (s : Int)],.pointer (some ⟨b,0,none⟩)] w fun e w' => e = zah 8 0 ∧ Below w.heap.size w w':=by
 have hlt:=h.lt
 have s0 : (0 : Int) ≤ (s : Int):=by omega
 have s1 : (s : Int) < 8:=by omega
 have a0:=((h.alloc (.cells #[.int .i64 (r : Int),.int .i64 (s : Int)] 176)).cR s hs).1
 have a1:=((h.alloc (.cells #[.int .i64 (r : Int),.int .i64 (s : Int)] 176)).cR s hs).2
 go_enter Tryz.func252,Tryz.ntmps252
 go_wp2
 go_region_dies
 all_goals (go_at_call 254; (with_reducible refine (zrY (k.regs s) K hout).mono ?_); rintro e wx ⟨rfl,hbx⟩)
 all_goals exact ⟨rfl,rfl,(box1.drew).trans (hbx.mono (by simp))⟩
theorem zhK {w : World} {b : Nat} {bv : Value} {k : Kn} (h : KnM w b bv k) (r : Nat) (hr : r < 8) (s : Nat) (hs : s < 8) (K : (k.regs r).Ok) (hout : ¬ (0 ≤ (k.regs r).lo ∧ (k.regs r).hi ≤ 15)) :
  Calls Tryz.prog 257 #[.agg #[.int .i64 (r : Int),.int .i64 (s : Int)],.pointer (some ⟨b,0,none⟩)] w fun e w' => e = zah 8 0 ∧ Below w.heap.size w w':=by
 have hlt:=h.lt
 have r0 : (0 : Int) ≤ (r : Int):=by omega
 have r1 : (r : Int) < 8:=by omega
 have s0 : (0 : Int) ≤ (s : Int):=by omega
 have s1 : (s : Int) < 8:=by omega
 obtain ⟨A,hA⟩ : ∃ A,w.alloc (.cells #[.int .i64 (r : Int),.int .i64 (s : Int)] 178) = A:=⟨_,rfl⟩
 have HB : ∀ W,Below A.heap.size A W → KnM W b bv k:=fun W hW => by subst hA; exact (h.alloc _).below hW (by simp; omega)
 have hL : ∀ W,Below A.heap.size A W → Below w.heap.size w W:=fun W hW => by subst hA; exact box1.trans (hW.mono (by simp))
 have HF : ∀ W,Below A.heap.size A W → (W.cell? ⟨w.heap.size,0,none⟩ = some (.int .i64 (r : Int)) ∧ W.cell? ⟨w.heap.size,1,none⟩ = some (.int .i64 (s : Int))) ∧ (W.cell? ⟨b,r * 2,none⟩ = some (.int .i64 (k.regs r).lo) ∧ W.cell? ⟨b,r * 2 + 1,none⟩ = some (.int .i64 (k.regs r).hi)) ∧ (W.cell? ⟨b,s * 2,none⟩ = some (.int .i64 (k.regs s).lo) ∧ W.cell? ⟨b,s * 2 + 1,none⟩ = some (.int .i64 (k.regs s).hi)):=fun W hW =>
  ⟨by subst hA; exact ⟨za4 hW 0,za4 hW 1⟩,(HB W hW).cR r hr,(HB W hW).cR s hs⟩
 go_enter Tryz.func257,Tryz.ntmps257
 go_wp2
 refine zac 15 (fun W => Below A.heap.size A W) (Below.refl _ _).drew (by kernel_rfl) (by kernel_rfl) ?_
 simp only [List.take_succ_cons,List.take_zero,List.drop_succ_cons,List.drop_zero]
 repeat (refine zab rfl ?_ (fun W hW => ?_) ?_; rotate_left 1; · (obtain ⟨⟨f0,f1⟩,⟨f2,f3⟩,f4,f5⟩:=HF W hW; go_simp; with_reducible rfl))
 refine wpQuiet_nil ?_
 intro W hW
 have hW2:=hL W hW
 go_wp2_with (first | (go_at_call 258; (with_reducible refine (zpz (k.regs r) (k.regs s) K hout).mono ?_); rintro e w5 ⟨rfl,hb5⟩))
 exact ⟨rfl,rfl,hW2.trans (hb5.mono hW2.size)⟩
theorem zrX {w : World} {b : Nat} {bv : Value} {k : Kn} (h : KnM w b bv k) (r : Nat) (hr : r < 8) (s : Nat) (hs : s < 8) (t : Nat) (ht : t < 8) (h0 : 0 ≤ k.steps) (h1 : k.steps ≤ 100000) (n0 : 0 ≤ k.next) (n1 : k.next ≤ 100000) :
  Calls Tryz.prog 240 #[.agg #[.int .i64 (r : Int),.int .i64 (s : Int),.int .i64 (t : Int)],.pointer (some ⟨b,0,none⟩)] w (zaP w b bv ({ k with regs:=updR k.regs r (subR k s t) }.goTo (k.next + 1))):=by
 have hlt:=h.lt
 have r0 : (0 : Int) ≤ (r : Int):=by omega
 have r1 : (r : Int) < 8:=by omega
 have s0 : (0 : Int) ≤ (s : Int):=by omega
 have s1 : (s : Int) < 8:=by omega
 have t0 : (0 : Int) ≤ (t : Int):=by omega
 have t1 : (t : Int) < 8:=by omega
 obtain ⟨A,hA⟩ : ∃ A,w.alloc (.cells #[.int .i64 (r : Int),.int .i64 (s : Int),.int .i64 (t : Int)] 172) = A:=⟨_,rfl⟩
 have HB : ∀ W,Below A.heap.size A W → KnM W b bv k:=fun W hW => by subst hA; exact (h.alloc _).below hW (by simp; omega)
 have HF : ∀ W,Below A.heap.size A W → (W.cell? ⟨w.heap.size,0,none⟩ = some (.int .i64 (r : Int)) ∧ W.cell? ⟨w.heap.size,1,none⟩ = some (.int .i64 (s : Int)) ∧ W.cell? ⟨w.heap.size,2,none⟩ = some (.int .i64 (t : Int))) ∧ (W.cell? ⟨b,s * 2,none⟩ = some (.int .i64 (k.regs s).lo) ∧ W.cell? ⟨b,s * 2 + 1,none⟩ = some (.int .i64 (k.regs s).hi)) ∧ (W.cell? ⟨b,t * 2,none⟩ = some (.int .i64 (k.regs t).lo) ∧ W.cell? ⟨b,t * 2 + 1,none⟩ = some (.int .i64 (k.regs t).hi)):=fun W hW => ⟨by subst hA; exact ⟨za4 hW 0,za4 hW 1,za4 hW 2⟩,(HB W hW).cR s hs,(HB W hW).cR t ht⟩
 go_enter Tryz.func240,Tryz.ntmps240
 go_wp2
 refine zac 8 (fun W => Below A.heap.size A W) (Below.refl _ _).drew (by kernel_rfl) (by kernel_rfl) ?_
 simp only [List.take_succ_cons,List.take_zero,List.drop_succ_cons,List.drop_zero]
 repeat (refine zab rfl ?_ (fun W hW => ?_) ?_; rotate_left 1; · (obtain ⟨⟨f0,f1,f2⟩,⟨gs,es⟩,⟨gt,et⟩⟩:=HF W hW; go_simp; with_reducible rfl))
 refine zaK rfl 241 #[.agg #[.int .i64 (r : Int),.int .i64 (s : Int),.int .i64 (t : Int)],.pointer (some ⟨b,0,none⟩)] (rv (subR k s t)) (fun W hW => ?_) (fun W hW => (zuh (HB W hW) r s hs t ht).mono (fun e w' hh => ⟨hh.1,hW.trans (hh.2.mono hW.size)⟩)) ?_
 ·go_simp
 repeat (refine zab rfl ?_ (fun W hW => ?_) ?_; rotate_left 1; · (obtain ⟨⟨f0,f1,f2⟩,⟨gs,es⟩,⟨gt,et⟩⟩:=HF W hW; go_simp; with_reducible rfl))
 refine wpQuiet_nil ?_
 intro W hW
 have hK:=HB W hW
 have c0:=(hK.cR r hr).1
 have c1:=(hK.cR r hr).2
 have z0:=hK.fz (r * 2)
 have z1:=hK.fz (r * 2 + 1)
 have hKK:=hK.putR r hr (subR k s t)
 go_wp2_with (go_at_call 227; (with_reducible refine (zbV hKK h0 h1 n0 n1).mono ?_); intro e w6 hw6; have hw7:=zeg (hA ▸ hW) hw6; clear hw6; obtain ⟨g,rfl,hg,hc,hk,hgr⟩:=hw7)
 go_ret
 exact ⟨g,rfl,hg,hc,hk,hgr⟩
theorem zpy {w : World} {b : Nat} {bv : Value} {k : Kn} (h : KnM w b bv k) (r : Nat) (hr : r < 8) (s : Nat) (hs : s < 8) (hle : (k.regs s).lo ≤ (k.regs s).hi) (q0 : 0 ≤ (k.regs s).lo) (q1 : (k.regs s).hi ≤ 15) (h0 : 0 ≤ k.steps) (h1 : k.steps ≤ 100000) (n0 : 0 ≤ k.next) (n1 : k.next ≤ 100000) :
  Calls Tryz.prog 252 #[.agg #[.int .i64 (r : Int),.int .i64 (s : Int)],.pointer (some ⟨b,0,none⟩)] w (zaP w b bv ({ k with regs:=updR k.regs r (zbX k.cells (k.regs s).lo.toNat ((k.regs s).hi.toNat - (k.regs s).lo.toNat)) }.goTo (k.next + 1))):=by
 have hlt:=h.lt
 have r0 : (0 : Int) ≤ (r : Int):=by omega
 have r1 : (r : Int) < 8:=by omega
 have s0 : (0 : Int) ≤ (s : Int):=by omega
 have s1 : (s : Int) < 8:=by omega
 obtain ⟨A,hA⟩ : ∃ A,w.alloc (.cells #[.int .i64 (r : Int),.int .i64 (s : Int)] 176) = A:=⟨_,rfl⟩
 have HB : ∀ W,Below A.heap.size A W → KnM W b bv k:=fun W hW => by subst hA; exact (h.alloc _).below hW (by simp; omega)
 have HF : ∀ W,Below A.heap.size A W → (W.cell? ⟨w.heap.size,0,none⟩ = some (.int .i64 (r : Int)) ∧ W.cell? ⟨w.heap.size,1,none⟩ = some (.int .i64 (s : Int))) ∧ (W.cell? ⟨b,s * 2,none⟩ = some (.int .i64 (k.regs s).lo) ∧ W.cell? ⟨b,s * 2 + 1,none⟩ = some (.int .i64 (k.regs s).hi)):=fun W hW => ⟨by subst hA; exact ⟨za4 hW 0,za4 hW 1⟩,(HB W hW).cR s hs⟩
 go_enter Tryz.func252,Tryz.ntmps252
 go_wp2
 refine zac 14 (fun W => Below A.heap.size A W) (Below.refl _ _).drew (by kernel_rfl) (by kernel_rfl) ?_
 simp only [List.take_succ_cons,List.take_zero,List.drop_succ_cons,List.drop_zero]
 repeat (refine zab rfl ?_ (fun W hW => ?_) ?_; rotate_left 1; · (obtain ⟨⟨f0,f1⟩,⟨gs,es⟩⟩:=HF W hW; go_simp; with_reducible rfl))
 refine zaK rfl 254 #[.pointer (some ⟨b,0,none⟩),rv (k.regs s)] (rv (zbX k.cells (k.regs s).lo.toNat ((k.regs s).hi.toNat - (k.regs s).lo.toNat))) (fun W hW => ?_) (fun W hW => (zrE (HB W hW) (k.regs s) hle q0 q1).mono (fun e w' hh => ⟨hh.1,hW.trans (hh.2.mono hW.size)⟩)) ?_
 ·go_simp
 repeat (refine zab rfl ?_ (fun W hW => ?_) ?_; rotate_left 1; · (obtain ⟨⟨f0,f1⟩,⟨gs,es⟩⟩:=HF W hW; go_simp; with_reducible rfl))
 refine wpQuiet_nil ?_
 intro W hW
 have hK:=HB W hW
 have c0:=(hK.cR r hr).1
 have c1:=(hK.cR r hr).2
 have z0:=hK.fz (r * 2)
 have z1:=hK.fz (r * 2 + 1)
 have hKK:=hK.putR r hr (zbX k.cells (k.regs s).lo.toNat ((k.regs s).hi.toNat - (k.regs s).lo.toNat))
 go_wp2_with (go_at_call 227; (with_reducible refine (zbV hKK h0 h1 n0 n1).mono ?_); intro e w6 hw6; have hw7:=zeg (hA ▸ hW) hw6; clear hw6; obtain ⟨g,rfl,hg,hc,hk,hgr⟩:=hw7)
 go_ret
 exact ⟨g,rfl,hg,hc,hk,hgr⟩
theorem zm2 {w : World} {b : Nat} {bv : Value} {k : Kn} (h : KnM w b bv k) (r : Nat) (hr : r < 8) (s : Nat) (hs : s < 8) (hle : (k.regs r).lo ≤ (k.regs r).hi) (q0 : 0 ≤ (k.regs r).lo) (q1 : (k.regs r).hi ≤ 15) (h0 : 0 ≤ k.steps) (h1 : k.steps ≤ 100000) (n0 : 0 ≤ k.next) (n1 : k.next ≤ 100000) :
  Calls Tryz.prog 257 #[.agg #[.int .i64 (r : Int),.int .i64 (s : Int)],.pointer (some ⟨b,0,none⟩)] w (zaP w b bv ({ k with cells:=zaC k.cells (k.regs r).lo.toNat (k.regs r).hi.toNat (k.regs s) }.goTo (k.next + 1))):=by
 have hlt:=h.lt
 have r0 : (0 : Int) ≤ (r : Int):=by omega
 have r1 : (r : Int) < 8:=by omega
 have s0 : (0 : Int) ≤ (s : Int):=by omega
 have s1 : (s : Int) < 8:=by omega
 obtain ⟨A,hA⟩ : ∃ A,w.alloc (.cells #[.int .i64 (r : Int),.int .i64 (s : Int)] 178) = A:=⟨_,rfl⟩
 have HB : ∀ W,Below A.heap.size A W → KnM W b bv k:=fun W hW => by subst hA; exact (h.alloc _).below hW (by simp; omega)
 have hL : ∀ W,Below A.heap.size A W → Below w.heap.size w W:=fun W hW => by subst hA; exact box1.trans (hW.mono (by simp))
 have HF : ∀ W,Below A.heap.size A W → (W.cell? ⟨w.heap.size,0,none⟩ = some (.int .i64 (r : Int)) ∧ W.cell? ⟨w.heap.size,1,none⟩ = some (.int .i64 (s : Int))) ∧ (W.cell? ⟨b,r * 2,none⟩ = some (.int .i64 (k.regs r).lo) ∧ W.cell? ⟨b,r * 2 + 1,none⟩ = some (.int .i64 (k.regs r).hi)) ∧ (W.cell? ⟨b,s * 2,none⟩ = some (.int .i64 (k.regs s).lo) ∧ W.cell? ⟨b,s * 2 + 1,none⟩ = some (.int .i64 (k.regs s).hi)):=fun W hW =>
  ⟨by subst hA; exact ⟨za4 hW 0,za4 hW 1⟩,(HB W hW).cR r hr,(HB W hW).cR s hs⟩
 go_enter Tryz.func257,Tryz.ntmps257
 go_wp2
 refine zac 15 (fun W => Below A.heap.size A W) (Below.refl _ _).drew (by kernel_rfl) (by kernel_rfl) ?_
 simp only [List.take_succ_cons,List.take_zero,List.drop_succ_cons,List.drop_zero]
 repeat (refine zab rfl ?_ (fun W hW => ?_) ?_; rotate_left 1; · (obtain ⟨⟨f0,f1⟩,⟨f2,f3⟩,f4,f5⟩:=HF W hW; go_simp; with_reducible rfl))
 refine wpQuiet_nil ?_
 intro W hW
 have hK:=HB W hW
 have hW2:=hL W hW
 go_wp2_with (first | (go_at_call 258; (with_reducible refine (zpl hK (k.regs r) (k.regs s) hle q0 q1).mono ?_); rintro e w5 ⟨rfl,hK5,hg5⟩) | (go_at_call 227; (with_reducible refine (zbV hK5 h0 h1 n0 n1).mono ?_); intro e w6 hw6; have hw7:=zcE (zad (zaJ hW2) hg5) hw6; clear hw6; obtain ⟨g,rfl,hg,hc,hk,hgr⟩:=hw7))
 go_ret
 exact ⟨g,rfl,hg,hc,hk,hgr⟩
end Go.Proofs.YtfpgjkbjbbgciaaGreatDoor
