import Derived.Test.YtfpgjkbjbbgciaaGreatDoorMe34
import Derived.Test.YtfpgjkbjbbgciaaGreatDoorMe36
set_option maxRecDepth 100000
set_option maxHeartbeats 8000000
namespace Go.Proofs.YtfpgjkbjbbgciaaGreatDoor
open Go.RowKit Sp
def rgs (f : Nat → Rg) : Nat → List Value
 | 0 => []
 | n + 1 => rgs f n ++ [.int .i64 (f n).lo,.int .i64 (f n).hi]
theorem zdm (f : Nat → Rg) (n : Nat) : (rgs f n).length = n * 2:=by
 induction n with
 | zero => rfl
 | succ n ih => simp [rgs,ih]; omega
theorem zlc (f : Nat → Rg) (n r : Nat) (h : r < n) : (rgs f n)[r * 2]? = some (.int .i64 (f r).lo) ∧ (rgs f n)[r * 2 + 1]? = some (.int .i64 (f r).hi):=by
 induction n with
 | zero => omega
 | succ n ih =>
  have hl:=zdm f n
  unfold rgs
  by_cases e : r = n
  ·subst e
   rw [List.getElem?_append_right (by omega),List.getElem?_append_right (by omega),hl,show r * 2 - r * 2 = 0 by omega,show r * 2 + 1 - r * 2 = 1 by omega]
   exact ⟨rfl,rfl⟩
  ·rw [List.getElem?_append_left (by omega),List.getElem?_append_left (by omega)]
   exact ih (by omega)
theorem zrP (f : Nat → Rg) (n : Nat) : ∀ v ∈ rgs f n,v.oneCell' = true:=by
 induction n with
 | zero => intro v hv; cases hv
 | succ n ih =>
  intro v hv
  rcases List.mem_append.1 hv with h | h
  ·exact ih v h
  ·rcases List.mem_cons.1 h with rfl | h
   ·rfl
   ·rw [List.mem_singleton.1 h]; rfl
theorem zvI (f : Nat → Rg) (n r : Nat) (h : r < n) : (rgs f n).toArray.extract (r * 2) (r * 2 + 2) = #[.int .i64 (f r).lo,.int .i64 (f r).hi]:=by
 obtain ⟨h0,h1⟩:=zlc f n r h
 have hl:=zdm f n
 apply Array.ext
 ·simp [hl]; omega
 ·intro i h2 h3
  have h4 : i < 2:=by simpa using h3
  rw [Array.getElem_extract]
  rcases (by omega : i = 0 ∨ i = 1) with rfl | rfl
  ·have:=(List.getElem?_eq_some_iff.1 h0).2
   simpa using this
  ·have:=(List.getElem?_eq_some_iff.1 h1).2
   simpa using this
theorem zrQ {t n : Nat} (hu : Tryz.prog.underlying t = some (.array n 213)) (A : Array Value) (r : Nat) (h : r < n) (x y : Value) (hc : A.extract (r * 2) (r * 2 + 2) = #[x,y]) (W : World) : (Instr.index t (.agg A) (.int .i64 (r : Int))).run Tryz.prog W = .ok (.agg #[x,y]) W:=by
 have hs : (sizeOf 213).run Tryz.prog W = .ok 2 W:=by kernel_rfl
 have ha : (isAgg 213).run Tryz.prog W = .ok true W:=by kernel_rfl
 have h1 : (0 : Int) ≤ (r : Int) ∧ (r : Int) < (n : Int):=by omega
 simp only [Instr.index,run_underlying hu,asIntOf,Sem.run_bind,Sem.run_pure,Result.andThen_ok,if_pos h1,hs,Int.toNat_natCast,part,ha,if_true,hc]
theorem znM {t n : Nat} (hu : Tryz.prog.underlying t = some (.array n 213)) (f : Nat → Rg) (r : Nat) (h : r < n) (W : World) : (Instr.index t (.agg (rgs f n).toArray) (.int .i64 (r : Int))).run Tryz.prog W = .ok (rv (f r)) W :=
 zrQ hu _ r h _ _ (zvI f n r h) W
theorem zld {w : World} {b o n : Nat} {f : Nat → Rg} (h : ∀ r,r < n → w.cell? ⟨b,o + r * 2,none⟩ = some (.int .i64 (f r).lo) ∧ w.cell? ⟨b,o + r * 2 + 1,none⟩ = some (.int .i64 (f r).hi)) : w.rangeAt b o (rgs f n):=by
 intro j v hv
 have hj:=(List.getElem?_eq_some_iff.1 hv).1
 rw [zdm] at hj
 obtain ⟨h0,h1⟩:=zlc f n (j / 2) (by omega)
 obtain ⟨g0,g1⟩:=h (j / 2) (by omega)
 rcases Nat.mod_two_eq_zero_or_one j with e | e
 ·rw [show j / 2 * 2 = j by omega] at h0 g0
  rw [g0,← h0,hv]
 ·rw [show j / 2 * 2 + 1 = j by omega] at h1
  rw [show o + j / 2 * 2 + 1 = o + j by omega] at g1
  rw [g1,← h1,hv]
theorem KnM.rowR {w : World} {b : Nat} {bv : Value} {k : Kn} (h : KnM w b bv k) : w.rangeAt b 0 (rgs k.regs 8) :=
 zld fun r hr => ⟨by rw [Nat.zero_add]; exact (h.cR r hr).1,by rw [Nat.zero_add]; exact (h.cR r hr).2⟩
theorem KnM.rowC {w : World} {b : Nat} {bv : Value} {k : Kn} (h : KnM w b bv k) : w.rangeAt b 16 (rgs k.cells 16) :=
 zld fun r hr => ⟨(h.cC r hr).1,(h.cC r hr).2⟩
theorem zhO {w : World} {b : Nat} {bv : Value} {k : Kn} (h : KnM w b bv k) (r : Nat) (z : Int) (h0 : 0 ≤ k.steps) (h1 : k.steps ≤ 100000) (n0 : 0 ≤ k.next) (n1 : k.next ≤ 100000) :
  Calls Tryz.prog 268 #[.agg #[.int .i64 (r : Int),.int .i64 (r : Int),.int .i64 z],.pointer (some ⟨b,0,none⟩)] w (zaP w b bv (k.goTo (k.next + 1))):=by
 have hK:=h.alloc (.cells #[.int .i64 (r : Int),.int .i64 (r : Int),.int .i64 z] 187)
 go_enter Tryz.func268,Tryz.ntmps268
 go_wp2_with (go_at_call 227; (with_reducible refine (zbV hK h0 h1 n0 n1).mono ?_); intro e w6 hw6; have hw7:=zcE (zaJ (b:=some b) box1) hw6; clear hw6; obtain ⟨g,rfl,hg,hc,hk,hgr⟩:=hw7)
 go_ret
 exact ⟨g,rfl,hg,hc,hk,hgr⟩
theorem zhP {w : World} {b : Nat} {bv : Value} {k : Kn} (h : KnM w b bv k) (r : Nat) (z : Int) (h0 : 0 ≤ k.steps) (h1 : k.steps ≤ 100000) :
  Calls Tryz.prog 275 #[.agg #[.int .i64 (r : Int),.int .i64 (r : Int),.int .i64 z],.pointer (some ⟨b,0,none⟩)] w (zaP w b bv (k.goTo z)):=by
 have hK:=h.alloc (.cells #[.int .i64 (r : Int),.int .i64 (r : Int),.int .i64 z] 188)
 go_enter Tryz.func275,Tryz.ntmps275
 go_wp2_with (go_at_call 229; (with_reducible refine (zfy hK z h0 h1).mono ?_); intro e w6 hw6; have hw7:=zcE (zaJ (b:=some b) box1) hw6; clear hw6; obtain ⟨g,rfl,hg,hc,hk,hgr⟩:=hw7)
 go_ret
 exact ⟨g,rfl,hg,hc,hk,hgr⟩
theorem zg3 {w : World} {b : Nat} {bv : Value} {k : Kn} (h : KnM w b bv k) (hbv : bv.oneCell' = true) (K : KnOk k) (l r : Nat) (hl : l < 8) (hr : r < 8) (hne : ¬ l = r) (z : Int) (h0 : 0 ≤ k.steps) (h1 : k.steps ≤ 100000) (n0 : 0 ≤ k.next) (n1 : k.next ≤ 100000) :
  Calls Tryz.prog 268 #[.agg #[.int .i64 (l : Int),.int .i64 (r : Int),.int .i64 z],.pointer (some ⟨b,0,none⟩)] w (zcu w b bv (zbs k l r zec zbi z)):=by
 have hK:=h.alloc (.cells #[.int .i64 (l : Int),.int .i64 (r : Int),.int .i64 z] 187)
 have t0 : ((l : Int) == (r : Int)) = false:=by simpa using (by omega : ¬ (l : Int) = (r : Int))
 go_enter Tryz.func268,Tryz.ntmps268
 go_wp2_with (go_at_call 270; (with_reducible refine (zkZ hK hbv K l r hl hr hne z h0 h1 n0 n1).mono ?_); intro e w6 hw6; have hw7:=ziV (zaJ (b:=some b) box1) hw6; clear hw6; obtain ⟨ao,cap,ps,rfl,A⟩:=hw7)
 go_ret
 exact ⟨ao,cap,ps,rfl,A⟩
theorem zg4 {w : World} {b : Nat} {bv : Value} {k : Kn} (h : KnM w b bv k) (hbv : bv.oneCell' = true) (K : KnOk k) (l r : Nat) (hl : l < 8) (hr : r < 8) (hne : ¬ l = r) (z : Int) (h0 : 0 ≤ k.steps) (h1 : k.steps ≤ 100000) (n0 : 0 ≤ k.next) (n1 : k.next ≤ 100000) :
  Calls Tryz.prog 275 #[.agg #[.int .i64 (l : Int),.int .i64 (r : Int),.int .i64 z],.pointer (some ⟨b,0,none⟩)] w (zcu w b bv (zbs k l r zed zaA z)):=by
 have hK:=h.alloc (.cells #[.int .i64 (l : Int),.int .i64 (r : Int),.int .i64 z] 188)
 have t0 : ((l : Int) == (r : Int)) = false:=by simpa using (by omega : ¬ (l : Int) = (r : Int))
 go_enter Tryz.func275,Tryz.ntmps275
 go_wp2_with (go_at_call 270; (with_reducible refine (zla hK hbv K l r hl hr hne z h0 h1 n0 n1).mono ?_); intro e w6 hw6; have hw7:=ziV (zaJ (b:=some b) box1) hw6; clear hw6; obtain ⟨ao,cap,ps,rfl,A⟩:=hw7)
 go_ret
 exact ⟨ao,cap,ps,rfl,A⟩
theorem zpr {w : World} (a1 a2 : Option Addr) (c1 c2 : Nat) (xs ys : List Int) (h1 : BhM w a1 c1 xs) (h2 : BhM w a2 c2 ys) : Calls Tryz.prog 176 #[.slice a1 xs.length c1,.slice a2 ys.length c2] w fun e w' => e = .returned (.bool (decide (xs = ys))) ∧ Below w.heap.size w w':=by
 have l1:=h1.len
 have l2:=h2.len
 by_cases hl : xs.length = ys.length
 ·have t0 : ((xs.length : Int) != (ys.length : Int)) = false:=by rw [hl]; simp
  have HL : Hid (xs.length = ys.length):=hl
  clear hl
  go_enter Tryz.func176,Tryz.ntmps176
  go_wp2
  go_loopw [13] (fun ti wr => ∃ j : Nat,j ≤ xs.length ∧ ti = .int .i64 (j : Int) ∧ AgreeTo xs ys j ∧ Below w.heap.size w wr) (fun ti _ => xs.length - (intOf ti).toNat)
  case atStart => exact ⟨0,by omega,rfl,fun i hi => absurd hi (by omega),Below.refl _ _⟩
  case round =>
   obtain ⟨j,hj,rfl,hA,hb⟩:=hrel
   have hj0 : (0 : Int) ≤ (j : Int):=by omega
   by_cases hx : j < xs.length
   ·have hx1 : (j : Int) < (xs.length : Int):=by omega
    have hy : j < ys.length:=by have:=HL.out; omega
    have hy1 : (j : Int) < (ys.length : Int):=by omega
    obtain ⟨g1,rfl⟩:=h1.addr (by omega)
    obtain ⟨g2,rfl⟩:=h2.addr (by have:=HL.out; omega)
    have HF : ∀ W,Below w.heap.size w W → W.cell? ⟨g1,j,none⟩ = some (.int .i64 xs[j]) ∧ W.cell? ⟨g2,j,none⟩ = some (.int .i64 ys[j]):=fun W hW => ⟨((h1.below hW).cell g1 rfl).2 j xs[j] (List.getElem?_eq_getElem hx),((h2.below hW).cell g2 rfl).2 j ys[j] (List.getElem?_eq_getElem hy)⟩
    by_cases hc : xs[j] = ys[j]
    ·have hc2 : (xs[j] != ys[j]) = false:=by simpa using hc
     go_wp2
     refine zac 8 (fun W => Below w.heap.size w W) hb.drew (by kernel_rfl) (by kernel_rfl) ?_
     simp only [List.take_succ_cons,List.take_zero,List.drop_succ_cons,List.drop_zero]
     repeat (refine zab rfl ?_ (fun W hW => ?_) ?_; rotate_left 1; · (obtain ⟨f1,f2⟩:=HF W hW; go_simp; with_reducible rfl))
     refine wpQuiet_nil ?_
     intro W hW
     go_wp2
     go_roundw
     case rel => exact ⟨j + 1,by omega,by go_num,hA.succ (by rw [List.getElem?_eq_getElem hx,List.getElem?_eq_getElem hy,hc]),hW⟩
     case measure => simp [intOf]; omega
    ·have hc2 : (xs[j] != ys[j]) = true:=by simpa using hc
     have e0 : decide (xs = ys) = false:=by
      rw [decide_eq_false_iff_not]
      intro e
      subst e
      exact hc rfl
     go_wp2
     refine zac 8 (fun W => Below w.heap.size w W) hb.drew (by kernel_rfl) (by kernel_rfl) ?_
     simp only [List.take_succ_cons,List.take_zero,List.drop_succ_cons,List.drop_zero]
     repeat (refine zab rfl ?_ (fun W hW => ?_) ?_; rotate_left 1; · (obtain ⟨f1,f2⟩:=HF W hW; go_simp; with_reducible rfl))
     refine wpQuiet_nil ?_
     intro W hW
     go_wp2
     go_ret
     exact ⟨by rw [e0]; rfl,hW⟩
   ·have hx2 : decide ((j : Int) < (xs.length : Int)) = false:=by simpa using hx
    have e0 : decide (xs = ys) = true:=by rw [decide_eq_true_iff]; have:=HL.out; exact hA.all (by omega) (by omega)
    go_wp2
    go_ret
    exact ⟨by rw [e0]; rfl,hb⟩
 ·have t0 : ((xs.length : Int) != (ys.length : Int)) = true:=by
   have : ¬ (xs.length : Int) = (ys.length : Int):=by omega
   simpa using this
  have e0 : decide (xs = ys) = false:=by rw [decide_eq_false_iff_not]; exact fun e => hl (by rw [e])
  rw [e0]
  go_enter Tryz.func176,Tryz.ntmps176
  go_wp2
  go_ret
  exact ⟨rfl,Below.refl _ _⟩
def covB (f g : Nat → Rg) : Nat → Bool
 | 0 => true
 | n + 1 => covB f g n && (g n).within (f n)
theorem zps {f g : Nat → Rg} {n j : Nat} (hj : j < n) (h : (g j).within (f j) = false) : covB f g n = false:=by
 induction n with
 | zero => omega
 | succ n ih =>
  unfold covB
  by_cases e : j = n
  ·subst e; rw [h,Bool.and_false]
  ·rw [ih (by omega),Bool.false_and]
theorem zlb {w : World} (g1 o1 c1 g2 o2 c2 n : Nat) (f g : Nat → Rg) (hn : n ≤ 16) (h1 : ∀ r,r < n → w.cell? ⟨g1,o1 + r * 2,none⟩ = some (.int .i64 (f r).lo) ∧ w.cell? ⟨g1,o1 + r * 2 + 1,none⟩ = some (.int .i64 (f r).hi)) (h2 : ∀ r,r < n → w.cell? ⟨g2,o2 + r * 2,none⟩ = some (.int .i64 (g r).lo) ∧ w.cell? ⟨g2,o2 + r * 2 + 1,none⟩ = some (.int .i64 (g r).hi)) (l1 : g1 < w.heap.size) (l2 : g2 < w.heap.size) :
  Calls Tryz.prog 177 #[.slice (some ⟨g1,o1,none⟩) n c1,.slice (some ⟨g2,o2,none⟩) n c2] w fun e w' => e = .returned (.bool (covB f g n)) ∧ Below w.heap.size w w':=by
 go_enter Tryz.func177,Tryz.ntmps177
 go_wp2
 go_loopw [9] (fun ti wr => ∃ j : Nat,j ≤ n ∧ ti = .int .i64 (j : Int) ∧ covB f g j = true ∧ Below w.heap.size w wr) (fun ti _ => n - (intOf ti).toNat)
 case atStart => exact ⟨0,by omega,rfl,rfl,Below.refl _ _⟩
 case round =>
  obtain ⟨j,hj,rfl,hA,hb⟩:=hrel
  have hj0 : (0 : Int) ≤ (j : Int):=by omega
  by_cases hx : j < n
  ·have hx1 : (j : Int) < (n : Int):=by omega
   have KC : ∀ q i W,q < w.heap.size → Below w.heap.size w W → W.cell? ⟨q,i,none⟩ = w.cell? ⟨q,i,none⟩:=fun q i W hq hW => World.cell?_of_block (a:=⟨q,i,none⟩) (hW.block q hq)
   obtain ⟨d0,d1⟩:=h2 j hx
   rw [← KC g2 _ wr l2 hb] at d0 d1
   obtain ⟨A,hA2⟩ : ∃ A,wr.alloc (.cells #[.int .i64 (g j).lo,.int .i64 (g j).hi] 213) = A:=⟨_,rfl⟩
   have HL : ∀ W,Below A.heap.size A W → Below w.heap.size w W:=fun W hW => by subst hA2; exact hb.trans ((box1.trans (hW.mono (by simp))).mono hb.size)
   have HF : ∀ W,Below A.heap.size A W → (W.cell? ⟨wr.heap.size,0,none⟩ = some (.int .i64 (g j).lo) ∧ W.cell? ⟨wr.heap.size,1,none⟩ = some (.int .i64 (g j).hi)) ∧ (W.cell? ⟨g1,o1 + j * 2,none⟩ = some (.int .i64 (f j).lo) ∧ W.cell? ⟨g1,o1 + j * 2 + 1,none⟩ = some (.int .i64 (f j).hi)):=fun W hW =>
    ⟨by subst hA2; exact ⟨za4 hW 0,za4 hW 1⟩,(KC _ _ W l1 (HL W hW)).trans (h1 j hx).1,(KC _ _ W l1 (HL W hW)).trans (h1 j hx).2⟩
   by_cases hc : (g j).within (f j) = true
   ·go_wp2
    refine zac 6 (fun W => Below A.heap.size A W) (Below.refl _ _).drew (by kernel_rfl) (by kernel_rfl) ?_
    simp only [List.take_succ_cons,List.take_zero,List.drop_succ_cons,List.drop_zero]
    repeat (refine zab rfl ?_ (fun W hW => ?_) ?_; rotate_left 1; · (obtain ⟨⟨f0,f1⟩,f2,f3⟩:=HF W hW; go_simp; with_reducible rfl))
    refine zaK rfl 182 #[rv (g j),rv (f j)] (.bool ((g j).within (f j))) (fun W hW => ?_) (fun W hW => (ziN _ _ W).mono (fun e w' hh => ⟨hh.1,hW.trans (hh.2.mono hW.size)⟩)) ?_
    ·go_simp
    refine wpQuiet_nil ?_
    intro W hW
    have hW2:=HL W hW
    go_wp2
    go_roundw
    case rel => exact ⟨j + 1,by omega,by go_num,by unfold covB; rw [hA,hc]; rfl,hW2⟩
    case measure => simp [intOf]; omega
   ·have hc2 : (g j).within (f j) = false:=by simpa using hc
    clear hc
    go_wp2
    refine zac 6 (fun W => Below A.heap.size A W) (Below.refl _ _).drew (by kernel_rfl) (by kernel_rfl) ?_
    simp only [List.take_succ_cons,List.take_zero,List.drop_succ_cons,List.drop_zero]
    repeat (refine zab rfl ?_ (fun W hW => ?_) ?_; rotate_left 1; · (obtain ⟨⟨f0,f1⟩,f2,f3⟩:=HF W hW; go_simp; with_reducible rfl))
    refine zaK rfl 182 #[rv (g j),rv (f j)] (.bool ((g j).within (f j))) (fun W hW => ?_) (fun W hW => (ziN _ _ W).mono (fun e w' hh => ⟨hh.1,hW.trans (hh.2.mono hW.size)⟩)) ?_
    ·go_simp
    refine wpQuiet_nil ?_
    intro W hW
    have hW2:=HL W hW
    go_wp2
    go_ret
    exact ⟨by rw [zps hx hc2]; rfl,hW2⟩
  ·have hx2 : decide ((j : Int) < (n : Int)) = false:=by simpa using hx
   obtain rfl : j = n:=by omega
   go_wp2
   go_ret
   exact ⟨by rw [hA]; rfl,hb⟩
def zbY (k o : Kn) : Bool:=decide (k.next = o.next) && (decide (k.behind = o.behind) && (covB k.regs o.regs 8 && covB k.cells o.cells 16))
theorem zmy {w : World} {b c oo b1 c1 : Nat} {a1 a2 : Option Addr} {k o : Kn} (h : KnM w b (.slice a1 k.behind.length b1) k) (h2 : KnR w c oo (.slice a2 o.behind.length c1) o) (B1 : BhM w a1 b1 k.behind) (B2 : BhM w a2 c1 o.behind) : Calls Tryz.prog 168 #[.pointer (some ⟨b,0,none⟩),.pointer (some ⟨c,oo,none⟩)] w fun e w' => e = .returned (.bool (zbY k o)) ∧ Below w.heap.size w w':=by
 have hc : c < w.heap.size:=World.block_lt_of_cell? w _ h2.cN
 have HK : ∀ W,Below w.heap.size w W → KnM W b (.slice a1 k.behind.length b1) k ∧ KnR W c oo (.slice a2 o.behind.length c1) o:=fun W hW => ⟨h.below hW h.lt,h2.block (hW.block c hc)⟩
 have HF : ∀ W,Below w.heap.size w W → W.cell? ⟨b,48,none⟩ = some (.int .i64 k.next) ∧ W.cell? ⟨c,oo + 48,none⟩ = some (.int .i64 o.next) ∧ W.cell? ⟨b,49,none⟩ = some (.slice a1 k.behind.length b1) ∧ W.cell? ⟨c,oo + 49,none⟩ = some (.slice a2 o.behind.length c1):=fun W hW => by
  obtain ⟨k1,k2⟩:=HK W hW
  exact ⟨k1.cN,k2.cN,k1.cB,k2.cB⟩
 have HE : ∀ W,Below w.heap.size w W → Calls Tryz.prog 176 #[.slice a1 k.behind.length b1,.slice a2 o.behind.length c1] W fun e w' => e = .returned (.bool (decide (k.behind = o.behind))) ∧ Below w.heap.size w w':=fun W hW => (zpr a1 a2 b1 c1 _ _ (B1.below hW) (B2.below hW)).mono fun e w' hh => ⟨hh.1,hW.trans (hh.2.mono hW.size)⟩
 have HR : ∀ W,Below w.heap.size w W → Calls Tryz.prog 177 #[.slice (some ⟨b,0,none⟩) 8 8,.slice (some ⟨c,oo,none⟩) 8 8] W fun e w' => e = .returned (.bool (covB k.regs o.regs 8)) ∧ Below w.heap.size w w':=fun W hW => by
  obtain ⟨k1,k2⟩:=HK W hW
  exact (zlb b 0 8 c oo 8 8 k.regs o.regs (by omega) (fun r hr => by rw [Nat.zero_add]; exact k1.cR r hr) (fun r hr => k2.cR r hr) k1.lt (Nat.lt_of_lt_of_le hc hW.size)).mono fun e w' hh => ⟨hh.1,hW.trans (hh.2.mono hW.size)⟩
 have HC : ∀ W,Below w.heap.size w W → Calls Tryz.prog 177 #[.slice (some ⟨b,16,none⟩) 16 16,.slice (some ⟨c,oo + 16,none⟩) 16 16] W fun e w' => e = .returned (.bool (covB k.cells o.cells 16)) ∧ Below w.heap.size w w':=fun W hW => by
  obtain ⟨k1,k2⟩:=HK W hW
  exact (zlb b 16 16 c (oo + 16) 16 16 k.cells o.cells (by omega) (fun r hr => k1.cC r hr) (fun r hr => by have:=k2.cC r hr; rw [show oo + (16 + r * 2) = oo + 16 + r * 2 by omega,show oo + (16 + r * 2 + 1) = oo + 16 + r * 2 + 1 by omega] at this; exact this) k1.lt (Nat.lt_of_lt_of_le hc hW.size)).mono fun e w' hh => ⟨hh.1,hW.trans (hh.2.mono hW.size)⟩
 by_cases e1 : k.next = o.next
 ·have t1 : (k.next == o.next) = true:=by simpa using e1
  by_cases e2 : k.behind = o.behind
  ·have t2 : decide (k.behind = o.behind) = true:=by simpa using e2
   rw [t2] at HE
   cases e3 : covB k.regs o.regs 8 with
   | false =>
    rw [e3] at HR
    have e0 : zbY k o = false:=by unfold zbY; rw [e3]; simp
    rw [e0]
    clear HC e2 t2 e3 e1 e0
    go_enter Tryz.func168,Tryz.ntmps168
    go_wp2
    refine zac 42 (fun W => Below w.heap.size w W) (Below.refl _ _).drew (by kernel_rfl) (by kernel_rfl) ?_
    simp only [List.take_succ_cons,List.take_zero,List.drop_succ_cons,List.drop_zero]
    iterate 10 (refine zab rfl ?_ (fun W hW => ?_) ?_; rotate_left 1; · (obtain ⟨f0,f1,f2,f3⟩:=HF W hW; go_simp; with_reducible rfl))
    simp only [Act.put,List.setIfInBounds_toArray,List.set_cons_zero,List.set_cons_succ]
    iterate 8 (go_big_quiet_want; rename_i K hK; refine ⟨?_,fun W hW => ?_,hK _ ?_⟩; rotate_left 1; (· (obtain ⟨f0,f1,f2,f3⟩:=HF W hW; unfold Oper.quietAt; go_simp; with_reducible rfl)); clear hK K; simp only [Act.put,List.setIfInBounds_toArray,List.set_cons_zero,List.set_cons_succ])
    go_big_quiet_want; rename_i K hK; refine ⟨.bool true,fun W hW => ?_,hK _ ?_⟩
    ·unfold Oper.quietAt; go_simp
    clear hK K
    simp only [Act.put,List.setIfInBounds_toArray,List.set_cons_zero,List.set_cons_succ]
    iterate 2 (refine zab rfl ?_ (fun W hW => ?_) ?_; rotate_left 1; · (obtain ⟨f0,f1,f2,f3⟩:=HF W hW; go_simp; with_reducible rfl))
    simp only [Act.put,List.setIfInBounds_toArray,List.set_cons_zero,List.set_cons_succ]
    iterate 8 (go_big_quiet_want; rename_i K hK; refine ⟨?_,fun W hW => ?_,hK _ ?_⟩; rotate_left 1; (· (obtain ⟨f0,f1,f2,f3⟩:=HF W hW; unfold Oper.quietAt; go_simp; with_reducible rfl)); clear hK K; simp only [Act.put,List.setIfInBounds_toArray,List.set_cons_zero,List.set_cons_succ])
    go_big_quiet_want; rename_i K hK; refine ⟨.bool false,fun W hW => ?_,hK _ ?_⟩
    ·unfold Oper.quietAt; go_simp
    clear hK K
    simp only [Act.put,List.setIfInBounds_toArray,List.set_cons_zero,List.set_cons_succ]
    iterate 2 (refine zab rfl ?_ (fun W hW => ?_) ?_; rotate_left 1; · (obtain ⟨f0,f1,f2,f3⟩:=HF W hW; go_simp; with_reducible rfl))
    simp only [Act.put,List.setIfInBounds_toArray,List.set_cons_zero,List.set_cons_succ]
    iterate 9 go_big_quiet_skip
    iterate 1 (refine zab rfl ?_ (fun W hW => ?_) ?_; rotate_left 1; · (obtain ⟨f0,f1,f2,f3⟩:=HF W hW; go_simp; with_reducible rfl))
    simp only [Act.put,List.setIfInBounds_toArray,List.set_cons_zero,List.set_cons_succ]
    refine wpQuiet_nil ?_
    intro W hW
    go_wp2
    go_ret
    exact ⟨rfl,hW⟩
   | true =>
    rw [e3] at HR
    have e0 : zbY k o = covB k.cells o.cells 16:=by unfold zbY; rw [e3,t2,show decide (k.next = o.next) = true by simpa using e1]; simp
    rw [e0]
    clear e2 t2 e3 e1 e0
    go_enter Tryz.func168,Tryz.ntmps168
    go_wp2
    refine zac 42 (fun W => Below w.heap.size w W) (Below.refl _ _).drew (by kernel_rfl) (by kernel_rfl) ?_
    simp only [List.take_succ_cons,List.take_zero,List.drop_succ_cons,List.drop_zero]
    iterate 10 (refine zab rfl ?_ (fun W hW => ?_) ?_; rotate_left 1; · (obtain ⟨f0,f1,f2,f3⟩:=HF W hW; go_simp; with_reducible rfl))
    simp only [Act.put,List.setIfInBounds_toArray,List.set_cons_zero,List.set_cons_succ]
    iterate 8 (go_big_quiet_want; rename_i K hK; refine ⟨?_,fun W hW => ?_,hK _ ?_⟩; rotate_left 1; (· (obtain ⟨f0,f1,f2,f3⟩:=HF W hW; unfold Oper.quietAt; go_simp; with_reducible rfl)); clear hK K; simp only [Act.put,List.setIfInBounds_toArray,List.set_cons_zero,List.set_cons_succ])
    go_big_quiet_want; rename_i K hK; refine ⟨.bool true,fun W hW => ?_,hK _ ?_⟩
    ·unfold Oper.quietAt; go_simp
    clear hK K
    simp only [Act.put,List.setIfInBounds_toArray,List.set_cons_zero,List.set_cons_succ]
    iterate 2 (refine zab rfl ?_ (fun W hW => ?_) ?_; rotate_left 1; · (obtain ⟨f0,f1,f2,f3⟩:=HF W hW; go_simp; with_reducible rfl))
    simp only [Act.put,List.setIfInBounds_toArray,List.set_cons_zero,List.set_cons_succ]
    iterate 8 (go_big_quiet_want; rename_i K hK; refine ⟨?_,fun W hW => ?_,hK _ ?_⟩; rotate_left 1; (· (obtain ⟨f0,f1,f2,f3⟩:=HF W hW; unfold Oper.quietAt; go_simp; with_reducible rfl)); clear hK K; simp only [Act.put,List.setIfInBounds_toArray,List.set_cons_zero,List.set_cons_succ])
    go_big_quiet_want; rename_i K hK; refine ⟨.bool true,fun W hW => ?_,hK _ ?_⟩
    ·unfold Oper.quietAt; go_simp
    clear hK K
    simp only [Act.put,List.setIfInBounds_toArray,List.set_cons_zero,List.set_cons_succ]
    iterate 2 (refine zab rfl ?_ (fun W hW => ?_) ?_; rotate_left 1; · (obtain ⟨f0,f1,f2,f3⟩:=HF W hW; go_simp; with_reducible rfl))
    simp only [Act.put,List.setIfInBounds_toArray,List.set_cons_zero,List.set_cons_succ]
    iterate 8 (go_big_quiet_want; rename_i K hK; refine ⟨?_,fun W hW => ?_,hK _ ?_⟩; rotate_left 1; (· (obtain ⟨f0,f1,f2,f3⟩:=HF W hW; unfold Oper.quietAt; go_simp; with_reducible rfl)); clear hK K; simp only [Act.put,List.setIfInBounds_toArray,List.set_cons_zero,List.set_cons_succ])
    go_big_quiet_want; rename_i K hK; refine ⟨.bool (covB k.cells o.cells 16),fun W hW => ?_,hK _ ?_⟩
    ·unfold Oper.quietAt; go_simp
    clear hK K
    simp only [Act.put,List.setIfInBounds_toArray,List.set_cons_zero,List.set_cons_succ]
    iterate 1 (refine zab rfl ?_ (fun W hW => ?_) ?_; rotate_left 1; · (obtain ⟨f0,f1,f2,f3⟩:=HF W hW; go_simp; with_reducible rfl))
    simp only [Act.put,List.setIfInBounds_toArray,List.set_cons_zero,List.set_cons_succ]
    refine wpQuiet_nil ?_
    intro W hW
    go_wp2
    go_ret
    exact ⟨rfl,hW⟩
  ·have t2 : decide (k.behind = o.behind) = false:=by simpa using e2
   rw [t2] at HE
   have e0 : zbY k o = false:=by unfold zbY; rw [t2]; simp
   rw [e0]
   clear HR HC e2 t2 e1 e0
   go_enter Tryz.func168,Tryz.ntmps168
   go_wp2
   refine zac 42 (fun W => Below w.heap.size w W) (Below.refl _ _).drew (by kernel_rfl) (by kernel_rfl) ?_
   simp only [List.take_succ_cons,List.take_zero,List.drop_succ_cons,List.drop_zero]
   iterate 10 (refine zab rfl ?_ (fun W hW => ?_) ?_; rotate_left 1; · (obtain ⟨f0,f1,f2,f3⟩:=HF W hW; go_simp; with_reducible rfl))
   simp only [Act.put,List.setIfInBounds_toArray,List.set_cons_zero,List.set_cons_succ]
   iterate 8 (go_big_quiet_want; rename_i K hK; refine ⟨?_,fun W hW => ?_,hK _ ?_⟩; rotate_left 1; (· (obtain ⟨f0,f1,f2,f3⟩:=HF W hW; unfold Oper.quietAt; go_simp; with_reducible rfl)); clear hK K; simp only [Act.put,List.setIfInBounds_toArray,List.set_cons_zero,List.set_cons_succ])
   go_big_quiet_want; rename_i K hK; refine ⟨.bool false,fun W hW => ?_,hK _ ?_⟩
   ·unfold Oper.quietAt; go_simp
   clear hK K
   simp only [Act.put,List.setIfInBounds_toArray,List.set_cons_zero,List.set_cons_succ]
   iterate 2 (refine zab rfl ?_ (fun W hW => ?_) ?_; rotate_left 1; · (obtain ⟨f0,f1,f2,f3⟩:=HF W hW; go_simp; with_reducible rfl))
   simp only [Act.put,List.setIfInBounds_toArray,List.set_cons_zero,List.set_cons_succ]
   iterate 9 go_big_quiet_skip
   iterate 2 (refine zab rfl ?_ (fun W hW => ?_) ?_; rotate_left 1; · (obtain ⟨f0,f1,f2,f3⟩:=HF W hW; go_simp; with_reducible rfl))
   simp only [Act.put,List.setIfInBounds_toArray,List.set_cons_zero,List.set_cons_succ]
   iterate 9 go_big_quiet_skip
   iterate 1 (refine zab rfl ?_ (fun W hW => ?_) ?_; rotate_left 1; · (obtain ⟨f0,f1,f2,f3⟩:=HF W hW; go_simp; with_reducible rfl))
   simp only [Act.put,List.setIfInBounds_toArray,List.set_cons_zero,List.set_cons_succ]
   refine wpQuiet_nil ?_
   intro W hW
   go_wp2
   go_ret
   exact ⟨rfl,hW⟩
 ·have t1 : (k.next == o.next) = false:=by simpa using e1
  have e0 : zbY k o = false:=by unfold zbY; rw [show decide (k.next = o.next) = false by simpa using e1]; simp
  rw [e0]
  clear HR HC HE e0 e1
  go_enter Tryz.func168,Tryz.ntmps168
  go_wp2
  refine zac 42 (fun W => Below w.heap.size w W) (Below.refl _ _).drew (by kernel_rfl) (by kernel_rfl) ?_
  simp only [List.take_succ_cons,List.take_zero,List.drop_succ_cons,List.drop_zero]
  iterate 10 (refine zab rfl ?_ (fun W hW => ?_) ?_; rotate_left 1; · (obtain ⟨f0,f1,f2,f3⟩:=HF W hW; go_simp; with_reducible rfl))
  simp only [Act.put,List.setIfInBounds_toArray,List.set_cons_zero,List.set_cons_succ]
  iterate 9 go_big_quiet_skip
  iterate 2 (refine zab rfl ?_ (fun W hW => ?_) ?_; rotate_left 1; · (obtain ⟨f0,f1,f2,f3⟩:=HF W hW; go_simp; with_reducible rfl))
  simp only [Act.put,List.setIfInBounds_toArray,List.set_cons_zero,List.set_cons_succ]
  iterate 9 go_big_quiet_skip
  iterate 2 (refine zab rfl ?_ (fun W hW => ?_) ?_; rotate_left 1; · (obtain ⟨f0,f1,f2,f3⟩:=HF W hW; go_simp; with_reducible rfl))
  simp only [Act.put,List.setIfInBounds_toArray,List.set_cons_zero,List.set_cons_succ]
  iterate 9 go_big_quiet_skip
  iterate 1 (refine zab rfl ?_ (fun W hW => ?_) ?_; rotate_left 1; · (obtain ⟨f0,f1,f2,f3⟩:=HF W hW; go_simp; with_reducible rfl))
  simp only [Act.put,List.setIfInBounds_toArray,List.set_cons_zero,List.set_cons_succ]
  refine wpQuiet_nil ?_
  intro W hW
  go_wp2
  go_ret
  exact ⟨rfl,hW⟩
end Go.Proofs.YtfpgjkbjbbgciaaGreatDoor
