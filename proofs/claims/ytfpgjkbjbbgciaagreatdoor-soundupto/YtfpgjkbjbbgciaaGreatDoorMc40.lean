import Derived.Test.YtfpgjkbjbbgciaaGreatDoorMc39
import Derived.Test.YtfpgjkbjbbgciaaGreatDoorCards
import Derived.Test.YtfpgjkbjbbgciaaGreatDoorTie
import Derived.Deep.DeepLaidRun
set_option maxRecDepth 100000
set_option maxHeartbeats 8000000
namespace Go.Proofs.YtfpgjkbjbbgciaaGreatDoor
open Go.RowKit Sp
theorem zfc {e : Int} {o : Option Int} {c : Int × Int} (h : zeb e o c = (0,0)) (he : ¬ e = 0) : o = none ∧ c = (0,0):=by
 cases o with
 | none => exact ⟨rfl,h⟩
 | some l => exact absurd (congrArg Prod.fst h) he
theorem zjA (A : List ByteArray) (i j : Nat) (hj : j < A.length) (hij : i ≤ j) (hb : (say A[j]).ok = false) : ¬ zb1 A i = (0,0):=by
 have hi : i < A.length:=by omega
 cases hc : (say A[i]).ok with
 | false => rw [zd7 A i hi hc]; exact fun e => absurd (congrArg Prod.fst e) (show ¬ (1 : Int) = 0 by decide)
 | true =>
  rw [ze5 A i hi hc]
  have hne : ¬ i = j:=fun e => by subst e; rw [hb] at hc; cases hc
  exact zjA A (i + 1) j hj (by omega) hb
termination_by A.length - i
theorem ztV (s : ByteArray) (h : zbN s = (0,0)) : zrA s ((lines s).map say):=by
 have hgood:=zmm s h
 unfold zbN at h
 by_cases hf : 4000 < s.size ∨ 300 < (lines s).length
 ·rw [if_pos hf] at h; exact absurd (congrArg Prod.fst h) (by decide)
 ·rw [if_neg hf] at h
  have h4 : s.size ≤ 4000:=by omega
  have h3 : (lines s).length ≤ 300:=by omega
  by_cases hok : ∀ x ∈ lines s,(say x).ok = true
  ·rw [zeA _ hok 0,ze9 _ hok] at h
   have S : Sts s (zaT (lines s) (lines s).length):=⟨h4,h3,hok,rfl⟩
   have hka:=zjp (lines s)
   generalize zaT (lines s) (lines s).length = K at S h hka
   cases K with
   | nil => exact absurd (congrArg Prod.fst h) (by decide)
   | cons k r =>
    unfold sayK at h
    dsimp only at h
    by_cases h0 : k.sort = 0
    ·rw [if_pos h0] at h
     obtain ⟨ht,h⟩:=zfc h (by decide)
     obtain ⟨hm,h⟩:=zfc h (by decide)
     obtain ⟨he,_⟩:=zfc h (by decide)
     intro w hw
     refine (zi5 s k r S h0 ht _ rfl hm he w hw).mono ?_
     rintro e w' ⟨hb,pm,ao,n,cap,F,rfl,hP,hG,hF0,hFn,hFi⟩
     refine ⟨hb,pm,ao,n,cap,F,rfl,hP,⟨hgood,zhw _ 0 k r hka.symm h0,?_,hF0⟩,hFn,hFi⟩
     rw [hG.out]; exact zmr _ 0 k r hka.symm h0
    ·rw [if_neg h0] at h
     exact absurd (congrArg Prod.fst h) (show ¬ (2 : Int) = 0 by decide)
  ·exfalso
   have : ∃ x ∈ lines s,¬ (say x).ok = true:=by
    refine Classical.byContradiction fun hn => hok fun x hx => ?_
    refine Classical.byContradiction fun hx' => hn ⟨x,hx,hx'⟩
   obtain ⟨x,hx,hb⟩:=this
   obtain ⟨j,hj,rfl⟩:=List.mem_iff_getElem.1 hx
   exact zjA (lines s) 0 j hj (by omega) (by simpa using hb) h
theorem zpt {w : World} {b cap : Nat} {ao : Option Addr} {k : Kn} (h : KnM w b (.slice ao k.behind.length cap) k) (z : Int) (hlen : k.behind.length = 15) :
  Calls Tryz.prog 282 #[.pointer (some ⟨b,0,none⟩),.int .i64 z] w fun e w' => e = zah 8 0 ∧ w' = w:=by
 have hfr:=zfi h (by omega)
 rw [hlen] at hfr
 go_enter Tryz.func282,Tryz.ntmps282
 go_wp2_with (first
  | (go_at_call 136; (with_reducible refine hfr.mono ?_); rintro e wx ⟨rfl,hww⟩; have hw2:=hww.symm; subst hw2))
 all_goals go_wp2
 exact ⟨rfl,rfl,rfl,rfl,rfl⟩
theorem zvT {w : World} {b g m cap : Nat} {k : Kn} {z : Int} (h : KnM w b (.slice (some ⟨g,0,none⟩) (m + 1) cap) k) (hm : m ≤ 15) (hc : m + 1 ≤ cap) (_hc2 : cap ≤ maxLen) (hz : w.cell? ⟨g,m,none⟩ = some (.int .i64 z)) (l : List Int) (h0 : 0 ≤ k.steps) (h1 : k.steps ≤ 100000) : Calls Tryz.prog 287 #[.pointer (some ⟨b,0,none⟩)] w (zaN w b (.slice (some ⟨g,0,none⟩) m cap) ({ k with behind:=l }.goTo z)):=by
 have c:=h.cS
 have n:=h.cN
 have d:=h.cB
 have f1:=h.fz 50
 have f2:=h.fz 48
 have f3:=h.fz 49
 have hlt:=h.lt
 unfold maxLen at _hc2
 have K:=h.putB (.slice (some ⟨g,0,none⟩) m cap) l
 go_enter Tryz.func287,Tryz.ntmps287
 go_wp2
 go_ret
 obtain ⟨g2,e2,l2,c2,k2,gr⟩:=znL K z
 rw [World.size_setCell] at e2 l2
 exact ⟨g2,e2,l2,c2,k2,zaf (zae (Below.refl _ _)) gr⟩
theorem zpu {w : World} {b cap : Nat} {ao : Option Addr} {k : Kn} {x : Int} {l : List Int} (h : KnM w b (.slice ao k.behind.length cap) k) (B : BhM w ao cap k.behind) (hk : k.behind = l ++ [x]) (ap : ∀ a,ao = some a → ¬ a.block = b) (h0 : 0 ≤ k.steps) (h1 : k.steps ≤ 100000) :
  Calls Tryz.prog 287 #[.pointer (some ⟨b,0,none⟩)] w fun e w' => zaN w b (.slice ao l.length cap) ({ k with behind:=l }.goTo x) e w' ∧ BhM w' ao cap l:=by
 have hl : k.behind.length = l.length + 1:=by rw [hk]; simp
 cases ao with
 | none => obtain ⟨e,_⟩:=B.nil rfl; rw [e] at hl; simp at hl
 | some a =>
  obtain ⟨g,rfl⟩:=B.at0 a rfl
  have b1:=B.len
  have b2:=B.le
  rw [hl] at h b1 b2
  refine (zvT h (by omega) b2 B.top ((B.cell g rfl).2 l.length x (by rw [hk]; simp)) l h0 h1).mono ?_
  rintro e w' hw
  refine ⟨hw,?_⟩
  obtain ⟨g2,e2,l2,c2,k2,gr⟩:=hw
  have B2 : BhM w' (some ⟨g,0,none⟩) cap k.behind:=B.grown gr ap
  exact ⟨by omega,by omega,B2.top,fun e => (by cases e),B2.at0,fun g' e => ⟨(B2.cell g' e).1,fun i v hv => (B2.cell g' e).2 i v (by rw [hk,List.getElem?_append_left (List.getElem?_eq_some_iff.1 hv).1]; exact hv)⟩⟩
theorem zlj {w : World} {p : Value} (r : Rg) (_hr : r.Ok) (h0 : r.lo < 0) : Calls Tryz.prog 255 #[p,rv r] w fun e w' => e = zah 8 0 ∧ Below w.heap.size w w':=by
 unfold Rg.Ok i64 at _hr
 have t : decide ((0 : Int) ≤ r.lo) = false:=by simpa using h0
 go_enter Tryz.func255,Tryz.ntmps255
 go_wp2
 exact ⟨rfl,rfl,rfl,rfl,za9⟩
theorem zjG {w : World} {p : Value} (r : Rg) (_hr : r.Ok) (h0 : 0 ≤ r.lo) (h1 : 15 < r.hi) : Calls Tryz.prog 255 #[p,rv r] w fun e w' => e = zah 8 0 ∧ Below w.heap.size w w':=by
 unfold Rg.Ok i64 at _hr
 have t : decide (r.hi ≤ (15 : Int)) = false:=by simpa using h1
 go_enter Tryz.func255,Tryz.ntmps255
 go_wp2
 exact ⟨rfl,rfl,rfl,rfl,za9⟩
theorem zg0 {w : World} {p : Value} (r : Rg) (hr : r.Ok) (h : ¬ (0 ≤ r.lo ∧ r.hi ≤ 15)) : Calls Tryz.prog 255 #[p,rv r] w fun e w' => e = zah 8 0 ∧ Below w.heap.size w w':=by
 by_cases h0 : 0 ≤ r.lo
 ·exact zjG r hr h0 (by omega)
 ·exact zlj r hr (by omega)
end Go.Proofs.YtfpgjkbjbbgciaaGreatDoor
namespace Go.Proofs.YtfpgjkbjbbgciaaGreatDoor
open Go.ChangeShapes Go.WideShapes Go.ChangeAt Go.RowKit Sp
def zho : DataW Unit → List Value
 | .agg l => l.map fun
  | .lit (.int k n) => Value.int k n
  | _ => Value.int .u8 0
 | _ => []
noncomputable def laidWorld (os : Os) : World :=
 let N:=(World.settled Tryz.prog os).heap.size
 let w0:=World.holding Tryz.prog os ⟨#[
  .cells #[.string ⟨#[105,110,118,97,108,105,100,32,115,121,110,116,97,120]⟩] 269,
  .cells #[.string ⟨#[118,97,108,117,101,32,111,117,116,32,111,102,32,114,97,110,103,101]⟩] 269],#[],[]⟩
 let put (h : Array Obj) (g : Nat) (cs : Array Value) : Array Obj:=h.modify g fun
  | .cells _ t frozen => .cells cs t frozen
  | o => o
 let h1:=put w0.heap 1 (Lib.firstTab.map fun z => Value.int .u8 z).toArray
 let h2:=put h1 2 ((List.range 16).flatMap fun i => [Value.int .u8 (Lib.accLo i),Value.int .u8 (Lib.accHi i)]).toArray
 let h3:=put h2 3 #[.iface 267 (.pointer (some ⟨N,0,none⟩))]
 let h4:=put h3 4 #[.iface 267 (.pointer (some ⟨N + 1,0,none⟩))]
 let h5:=put h4 5 (zho Rows.laid_internal_strconv_uint64pow10).toArray
 let h6:=put h5 6 (zho Rows.laid_math_bits_deBruijn32tab).toArray
 let h7:=put h6 7 (zho Rows.laid_math_bits_deBruijn64tab).toArray
 { w0 with heap:=h7 }
theorem zt6 (os : Os) (args : Array Value) : laidMet Tryz.prog Rows.checksUptoRow.laid ((laidWorld os).forCall (fun _ _ => 0) ⟨#[],args,[]⟩).memory :=
 laidMet_of_run3 8 (by kernel_rfl) (by kernel_rfl) (by kernel_rfl)
end Go.Proofs.YtfpgjkbjbbgciaaGreatDoor
namespace Go.Proofs.YtfpgjkbjbbgciaaGreatDoor
open Go.RowKit Sp
theorem zdb {w w2 : World} {b : Nat} {bv : Value} {k : Kn} {e : Ending} {w' : World} (hg : w.grownBy w2 (some b)) (h : zaN w2 b bv k e w') : zaN w b bv k e w':=by
 obtain ⟨g,e1,hg1,hc,hk,hgr⟩:=h
 exact ⟨g,e1,Nat.le_trans hg.size hg1,hc,hk,zaf hg hgr⟩
theorem za2 {w wx : World} {cs : Array Value} {t : TypeId} (hbx : Below (w.alloc (.cells cs t)).heap.size (w.alloc (.cells cs t)) wx) (j : Nat) : wx.cell? ⟨w.heap.size,j,none⟩ = cs[j]? :=
 (World.cell?_of_block (a:=⟨w.heap.size,j,none⟩) (hbx.block w.heap.size (by simp))).trans (World.cell?_alloc_new _ _ _ j)
theorem zex {w wx w' : World} {o : Obj} {b i j : Nat} {u v bv : Value} {k : Kn} {e : Ending} (hX : Below (w.alloc o).heap.size (w.alloc o) wx) (h : zaN ((wx.setCell ⟨b,i,none⟩ u).setCell ⟨b,j,none⟩ v) b bv k e w') : zaN w b bv k e w' :=
 zdb (zaf (zae (box1.trans (hX.mono (by simp)))) (zae (Below.refl _ _))) h
theorem zse {w : World} {b : Nat} {bv : Value} {k : Kn} (h : KnM w b bv k) (r : Nat) (hr : r < 8) (n : Int) (h0 : 0 ≤ k.steps) (h1 : k.steps ≤ 100000) (n0 : 0 ≤ k.next) (n1 : k.next ≤ 100000) :
  Calls Tryz.prog 224 #[.agg #[.int .i64 (r : Int),.int .i64 n],.pointer (some ⟨b,0,none⟩)] w (zaN w b bv ({ k with regs:=updR k.regs r (only n) }.goTo (k.next + 1))):=by
 have hlt:=h.lt
 have r0 : (0 : Int) ≤ (r : Int):=by omega
 have r1 : (r : Int) < 8:=by omega
 have HB : ∀ W,Below (w.alloc (.cells #[.int .i64 (r : Int),.int .i64 n] 167)).heap.size (w.alloc (.cells #[.int .i64 (r : Int),.int .i64 n] 167)) W → KnM W b bv k:=fun W hW => (h.alloc _).below hW (by simp; omega)
 go_enter Tryz.func224,Tryz.ntmps224
 go_wp2
 go_region_with (first
  | (go_at_call 226; (with_reducible refine (zgH n _).mono ?_); rintro e wx0 ⟨rfl,hbx0⟩; have hX0 : Below (w.alloc (.cells #[.int .i64 (r : Int),.int .i64 n] 167)).heap.size (w.alloc (.cells #[.int .i64 (r : Int),.int .i64 n] 167)) wx0:=(Below.refl _ _).drew.trans hbx0; have hK0:=HB _ hX0; have c0:=(hK0.cR r hr).1; have c1:=(hK0.cR r hr).2; have z0:=hK0.fz (r * 2); have z1:=hK0.fz (r * 2 + 1); have v0 : wx0.cell? ⟨w.heap.size,0,none⟩ = some (.int .i64 (r : Int)):=za2 hX0 0; have v1 : wx0.cell? ⟨w.heap.size,1,none⟩ = some (.int .i64 n):=za2 hX0 1; have hKK:=hK0.putR r hr (only n)))
 all_goals go_wp2_with (go_at_call 227; (with_reducible refine (zcc hKK h0 h1 n0 n1).mono ?_); intro e w6 hw6; have hw7:=zex hX0 hw6; clear hw6; obtain ⟨g,rfl,hg,hc,hk,hgr⟩:=hw7)
 all_goals go_ret
 all_goals exact ⟨g,rfl,hg,hc,hk,hgr⟩
theorem zgh {w W0 w3 : World} (hs0 : W0.heap.size = w.heap.size + 1 + 1 + 1 + 1) (k0 : W0.cell? ⟨w.heap.size + 1 + 1,0,none⟩ = some (.int .i64 0) ∧ W0.cell? ⟨w.heap.size + 1 + 1,1,none⟩ = some (.int .i64 0) ∧ W0.cell? ⟨w.heap.size + 1 + 1 + 1,0,none⟩ = some (.int .i64 0) ∧ W0.cell? ⟨w.heap.size + 1 + 1 + 1,1,none⟩ = some (.int .i64 0))
  (kz : ∀ j,W0.frozen? ⟨w.heap.size + 1 + 1,j,none⟩ = false ∧ W0.frozen? ⟨w.heap.size + 1 + 1 + 1,j,none⟩ = false) (hb : Below W0.heap.size W0 w3) :
  (w3.cell? ⟨w.heap.size + 1 + 1,0,none⟩ = some (.int .i64 0) ∧ w3.cell? ⟨w.heap.size + 1 + 1,1,none⟩ = some (.int .i64 0) ∧ w3.cell? ⟨w.heap.size + 1 + 1 + 1,0,none⟩ = some (.int .i64 0) ∧ w3.cell? ⟨w.heap.size + 1 + 1 + 1,1,none⟩ = some (.int .i64 0)) ∧
  w3.frozen? ⟨w.heap.size + 1 + 1,0,none⟩ = false ∧ w3.frozen? ⟨w.heap.size + 1 + 1,1,none⟩ = false ∧ w3.frozen? ⟨w.heap.size + 1 + 1 + 1,0,none⟩ = false ∧ w3.frozen? ⟨w.heap.size + 1 + 1 + 1,1,none⟩ = false:=by
 have z : ∀ b j,b < W0.heap.size → w3.frozen? ⟨b,j,none⟩ = W0.frozen? ⟨b,j,none⟩:=fun b j h => World.frozen?_of_block (w:=W0) (a:=⟨b,j,none⟩) (hb.block b h)
 refine ⟨zbF hb k0,?_,?_,?_,?_⟩
 ·rw [z _ _ (by omega)]; exact (kz 0).1
 ·rw [z _ _ (by omega)]; exact (kz 1).1
 ·rw [z _ _ (by omega)]; exact (kz 0).2
 ·rw [z _ _ (by omega)]; exact (kz 1).2
theorem zaV {W : World} {b c d : Nat} {x y v0 v1 v2 v3 : Value} (n1 : ¬ c = b) (n2 : ¬ d = b) (h : W.cell? ⟨c,0,none⟩ = some v0 ∧ W.cell? ⟨c,1,none⟩ = some v1 ∧ W.cell? ⟨d,0,none⟩ = some v2 ∧ W.cell? ⟨d,1,none⟩ = some v3) :
  ((W.setCell ⟨b,0,none⟩ x).setCell ⟨b,1,none⟩ y).cell? ⟨c,0,none⟩ = some v0 ∧ ((W.setCell ⟨b,0,none⟩ x).setCell ⟨b,1,none⟩ y).cell? ⟨c,1,none⟩ = some v1 ∧ ((W.setCell ⟨b,0,none⟩ x).setCell ⟨b,1,none⟩ y).cell? ⟨d,0,none⟩ = some v2 ∧ ((W.setCell ⟨b,0,none⟩ x).setCell ⟨b,1,none⟩ y).cell? ⟨d,1,none⟩ = some v3:=by
 have e : ∀ (g o : Nat),¬ g = b → ((W.setCell ⟨b,0,none⟩ x).setCell ⟨b,1,none⟩ y).cell? ⟨g,o,none⟩ = W.cell? ⟨g,o,none⟩:=fun g o hg => by
  rw [World.cell?_setCell_other,World.cell?_setCell_other]
  all_goals simp
 rw [e c 0 n1,e c 1 n1,e d 0 n2,e d 1 n2]
 exact h
theorem zgi {W : World} {p q : Nat} {x0 x1 y0 y1 u0 u1 v0 v1 : Value} (hne : ¬ p = q) (h : W.cell? ⟨p,0,none⟩ = some u0 ∧ W.cell? ⟨p,1,none⟩ = some u1 ∧ W.cell? ⟨q,0,none⟩ = some v0 ∧ W.cell? ⟨q,1,none⟩ = some v1) :
  ((((W.setCell ⟨p,0,none⟩ x0).setCell ⟨p,1,none⟩ x1).setCell ⟨q,0,none⟩ y0).setCell ⟨q,1,none⟩ y1).cell? ⟨p,0,none⟩ = some x0 ∧ ((((W.setCell ⟨p,0,none⟩ x0).setCell ⟨p,1,none⟩ x1).setCell ⟨q,0,none⟩ y0).setCell ⟨q,1,none⟩ y1).cell? ⟨p,1,none⟩ = some x1 ∧
  ((((W.setCell ⟨p,0,none⟩ x0).setCell ⟨p,1,none⟩ x1).setCell ⟨q,0,none⟩ y0).setCell ⟨q,1,none⟩ y1).cell? ⟨q,0,none⟩ = some y0 ∧ ((((W.setCell ⟨p,0,none⟩ x0).setCell ⟨p,1,none⟩ x1).setCell ⟨q,0,none⟩ y0).setCell ⟨q,1,none⟩ y1).cell? ⟨q,1,none⟩ = some y1:=by
 obtain ⟨a1,a2⟩:=zao (v0:=x0) (v1:=x1) h.1 h.2.1
 have hne' : ¬ q = p:=fun e => hne e.symm
 have b:=zaV (b:=p) (x:=x0) (y:=x1) hne' hne' ⟨h.2.2.1,h.2.2.2,h.2.2.1,h.2.2.2⟩
 obtain ⟨c1,c2⟩:=zao (v0:=y0) (v1:=y1) b.1 b.2.1
 have d:=zaV (b:=q) (x:=y0) (y:=y1) hne hne ⟨a1,a2,a1,a2⟩
 exact ⟨d.1,d.2.1,c1,c2⟩
theorem zpn (a b c d : Int) (w : World) (hl : Rg.Ok ⟨a,b⟩) (hr : Rg.Ok ⟨c,d⟩) (hne : ¬ a = c) : Calls Tryz.prog 277 #[rv ⟨a,b⟩,rv ⟨c,d⟩] w (zd0 w ⟨a,b⟩ ⟨c,d⟩ (za8 ⟨a,b⟩ ⟨c,d⟩)):=by
 have hq : za8 ⟨a,b⟩ ⟨c,d⟩ = some ((⟨a,b⟩ : Rg).without (⟨c,d⟩ : Rg),(⟨c,d⟩ : Rg).without (⟨a,b⟩ : Rg)):=by unfold za8; rw [if_neg (by dsimp only; omega)]
 rw [hq]
 have g1:=fun W => zcO (⟨a,b⟩ : Rg) (⟨c,d⟩ : Rg) W hl (by dsimp only; omega)
 have g2:=fun W => zcO (⟨c,d⟩ : Rg) (⟨a,b⟩ : Rg) W hr (by dsimp only; omega)
 have H1:=zev w (⟨a,b⟩ : Rg) (⟨c,d⟩ : Rg) (.cells #[.int .i64 0,.int .i64 0] 213) (.cells #[.int .i64 0,.int .i64 0] 213)
 have hs0 : ((((w.alloc (.cells #[.int .i64 a,.int .i64 b] 213)).alloc (.cells #[.int .i64 c,.int .i64 d] 213)).alloc (.cells #[.int .i64 0,.int .i64 0] 213)).alloc (.cells #[.int .i64 0,.int .i64 0] 213)).heap.size = w.heap.size + 1 + 1 + 1 + 1:=by simp
 have hB : Below w.heap.size w ((((w.alloc (.cells #[.int .i64 a,.int .i64 b] 213)).alloc (.cells #[.int .i64 c,.int .i64 d] 213)).alloc (.cells #[.int .i64 0,.int .i64 0] 213)).alloc (.cells #[.int .i64 0,.int .i64 0] 213)):=zbz
 have k0 : ((((w.alloc (.cells #[.int .i64 a,.int .i64 b] 213)).alloc (.cells #[.int .i64 c,.int .i64 d] 213)).alloc (.cells #[.int .i64 0,.int .i64 0] 213)).alloc (.cells #[.int .i64 0,.int .i64 0] 213)).cell? ⟨w.heap.size + 1 + 1,0,none⟩ = some (.int .i64 0) ∧ ((((w.alloc (.cells #[.int .i64 a,.int .i64 b] 213)).alloc (.cells #[.int .i64 c,.int .i64 d] 213)).alloc (.cells #[.int .i64 0,.int .i64 0] 213)).alloc (.cells #[.int .i64 0,.int .i64 0] 213)).cell? ⟨w.heap.size + 1 + 1,1,none⟩ = some (.int .i64 0) ∧ ((((w.alloc (.cells #[.int .i64 a,.int .i64 b] 213)).alloc (.cells #[.int .i64 c,.int .i64 d] 213)).alloc (.cells #[.int .i64 0,.int .i64 0] 213)).alloc (.cells #[.int .i64 0,.int .i64 0] 213)).cell? ⟨w.heap.size + 1 + 1 + 1,0,none⟩ = some (.int .i64 0) ∧ ((((w.alloc (.cells #[.int .i64 a,.int .i64 b] 213)).alloc (.cells #[.int .i64 c,.int .i64 d] 213)).alloc (.cells #[.int .i64 0,.int .i64 0] 213)).alloc (.cells #[.int .i64 0,.int .i64 0] 213)).cell? ⟨w.heap.size + 1 + 1 + 1,1,none⟩ = some (.int .i64 0) :=
  ⟨za7 _ _ _ _ _ _ 0,za7 _ _ _ _ _ _ 1,zay _ _ _ _ _ _ 0,zay _ _ _ _ _ _ 1⟩
 have kz : ∀ j,((((w.alloc (.cells #[.int .i64 a,.int .i64 b] 213)).alloc (.cells #[.int .i64 c,.int .i64 d] 213)).alloc (.cells #[.int .i64 0,.int .i64 0] 213)).alloc (.cells #[.int .i64 0,.int .i64 0] 213)).frozen? ⟨w.heap.size + 1 + 1,j,none⟩ = false ∧ ((((w.alloc (.cells #[.int .i64 a,.int .i64 b] 213)).alloc (.cells #[.int .i64 c,.int .i64 d] 213)).alloc (.cells #[.int .i64 0,.int .i64 0] 213)).alloc (.cells #[.int .i64 0,.int .i64 0] 213)).frozen? ⟨w.heap.size + 1 + 1 + 1,j,none⟩ = false:=fun j =>
  ⟨(World.frozen?_alloc_past _ _ _ (by simp)).trans (zeD _ _ _ _ _ j),World.frozen?_alloc_at _ _ _ _ (by simp)⟩
 clear hl hr hq
 generalize (⟨a,b⟩ : Rg).without (⟨c,d⟩ : Rg) = A at g1
 generalize (⟨c,d⟩ : Rg).without (⟨a,b⟩ : Rg) = B at g2
 have m1 : ¬ w.heap.size = w.heap.size + 1 + 1:=by omega
 have m2 : ¬ w.heap.size + 1 = w.heap.size + 1 + 1:=by omega
 have m3 : ¬ w.heap.size = w.heap.size + 1 + 1 + 1:=by omega
 have m4 : ¬ w.heap.size + 1 = w.heap.size + 1 + 1 + 1:=by omega
 have t1 : (a == c) = false:=by simpa using hne
 go_enter Tryz.func277,Tryz.ntmps277
 go_wp2_with fail
 generalize (((w.alloc (.cells #[.int .i64 a,.int .i64 b] 213)).alloc (.cells #[.int .i64 c,.int .i64 d] 213)).alloc (.cells #[.int .i64 0,.int .i64 0] 213)).alloc (.cells #[.int .i64 0,.int .i64 0] 213) = W0 at hs0 hB k0 kz H1
 go_region_held3 (fun W => W.cell? ⟨w.heap.size,0,none⟩ = some (.int .i64 a) ∧ W.cell? ⟨w.heap.size,1,none⟩ = some (.int .i64 b) ∧ W.cell? ⟨w.heap.size + 1,0,none⟩ = some (.int .i64 c) ∧ W.cell? ⟨w.heap.size + 1,1,none⟩ = some (.int .i64 d))
  (first | (with_reducible exact H3) | (with_reducible exact H2) | (with_reducible exact zaV m1 m2 H3) | (with_reducible exact zaV m3 m4 H3) | (with_reducible exact zaV m3 m4 (zaV m1 m2 H3)) | (with_reducible exact zaV m1 m2 (zaV m3 m4 H3)) | exact H1)
  (first | (go_at_call 278; (with_reducible refine (g1 _).mono ?_); rintro e w2 ⟨rfl,hb2⟩; have H2:=zbF hb2 H1) | (go_at_call 278; (with_reducible refine (g2 _).mono ?_); rintro e w3 ⟨rfl,hb3⟩; have H3:=zbF hb3 H2; have hb03 : Below W0.heap.size W0 w3:=((Below.refl _ _).drew).trans (hb2.trans (hb3.mono hb2.size)); obtain ⟨⟨q1,q2,q3,q4⟩,f1,f2,f3,f4⟩:=zgh hs0 k0 kz hb03))
 have hb03 : Below W0.heap.size W0 w3:=((Below.refl _ _).drew).trans (hb2.trans (hb3.mono hb2.size))
 have hbw:=hB.trans (hb03.mono hB.size)
 have R:=zgi (x0:=.int .i64 A.lo) (x1:=.int .i64 A.hi) (y0:=.int .i64 B.lo) (y1:=.int .i64 B.hi) (show ¬ w.heap.size + 1 + 1 = w.heap.size + 1 + 1 + 1 by omega) ⟨q1,q2,q3,q4⟩
 have hX : Below w.heap.size w ((((w3.setCell ⟨w.heap.size + 1 + 1,0,none⟩ (.int .i64 A.lo)).setCell ⟨w.heap.size + 1 + 1,1,none⟩ (.int .i64 A.hi)).setCell ⟨w.heap.size + 1 + 1 + 1,0,none⟩ (.int .i64 B.lo)).setCell ⟨w.heap.size + 1 + 1 + 1,1,none⟩ (.int .i64 B.hi)):=zas (zas hbw (by omega)) (by omega)
 go_wp2
 exact zd1 (l:=A) (r:=B) Tryz.results277 rfl rfl rfl rfl R.1 R.2.1 R.2.2.1 R.2.2.2 ⟨hX,rfl⟩
theorem zpy {w : World} (a1 a2 : Option Addr) (c1 c2 : Nat) (xs ys : List Int) (h1 : BhM w a1 c1 xs) (h2 : BhM w a2 c2 ys) : Calls Tryz.prog 176 #[.slice a1 xs.length c1,.slice a2 ys.length c2] w fun e w' => e = .returned (.bool (decide (xs = ys))) ∧ Below w.heap.size w w':=by
 have l1:=h1.len
 have l2:=h2.len
 by_cases hl : xs.length = ys.length
 ·have t0 : ((xs.length : Int) != (ys.length : Int)) = false:=by rw [hl]; simp
  have HL : Hid (xs.length = ys.length):=hl
  clear hl
  go_enter Tryz.func176,Tryz.ntmps176
  go_wp2
  go_loopw [13] (fun ti wr => ∃ j : Nat,j ≤ xs.length ∧ ti = .int .i64 (j : Int) ∧ AgreeTo xs ys j ∧ Below w.heap.size w wr) (fun ti _ => xs.length - (intOf ti).toNat)
  case atStart => exact ⟨0,by omega,rfl,fun i hi => absurd hi (by omega),Below.refl _ _⟩
  case round =>
   obtain ⟨j,hj,rfl,hA,hb⟩:=hrel
   have hj0 : (0 : Int) ≤ (j : Int):=by omega
   by_cases hx : j < xs.length
   ·have hx1 : (j : Int) < (xs.length : Int):=by omega
    have hy : j < ys.length:=by have:=HL.out; omega
    have hy1 : (j : Int) < (ys.length : Int):=by omega
    obtain ⟨g1,rfl⟩:=h1.addr (by omega)
    obtain ⟨g2,rfl⟩:=h2.addr (by have:=HL.out; omega)
    have HF : ∀ W,Below w.heap.size w W → W.cell? ⟨g1,j,none⟩ = some (.int .i64 xs[j]) ∧ W.cell? ⟨g2,j,none⟩ = some (.int .i64 ys[j]):=fun W hW => ⟨((h1.below hW).cell g1 rfl).2 j xs[j] (List.getElem?_eq_getElem hx),((h2.below hW).cell g2 rfl).2 j ys[j] (List.getElem?_eq_getElem hy)⟩
    by_cases hc : xs[j] = ys[j]
    ·have hc2 : (xs[j] != ys[j]) = false:=by simpa using hc
     go_wp2
     refine zad 8 (fun W => Below w.heap.size w W) hb.drew (by kernel_rfl) (by kernel_rfl) ?_
     simp only [List.take_succ_cons,List.take_zero,List.drop_succ_cons,List.drop_zero]
     repeat (refine zab rfl ?_ (fun W hW => ?_) ?_; rotate_left 1; · (obtain ⟨f1,f2⟩:=HF W hW; go_simp; with_reducible rfl))
     refine wpQuiet_nil ?_
     intro W hW
     go_wp2
     go_roundw
     case rel => exact ⟨j + 1,by omega,by go_num,hA.succ (by rw [List.getElem?_eq_getElem hx,List.getElem?_eq_getElem hy,hc]),hW⟩
     case measure => simp [intOf]; omega
    ·have hc2 : (xs[j] != ys[j]) = true:=by simpa using hc
     have e0 : decide (xs = ys) = false:=by
      rw [decide_eq_false_iff_not]
      intro e
      subst e
      exact hc rfl
     go_wp2
     refine zad 8 (fun W => Below w.heap.size w W) hb.drew (by kernel_rfl) (by kernel_rfl) ?_
     simp only [List.take_succ_cons,List.take_zero,List.drop_succ_cons,List.drop_zero]
     repeat (refine zab rfl ?_ (fun W hW => ?_) ?_; rotate_left 1; · (obtain ⟨f1,f2⟩:=HF W hW; go_simp; with_reducible rfl))
     refine wpQuiet_nil ?_
     intro W hW
     go_wp2
     go_ret
     exact ⟨by rw [e0]; rfl,hW⟩
   ·have hx2 : decide ((j : Int) < (xs.length : Int)) = false:=by simpa using hx
    have e0 : decide (xs = ys) = true:=by rw [decide_eq_true_iff]; have:=HL.out; exact hA.all (by omega) (by omega)
    go_wp2
    go_ret
    exact ⟨by rw [e0]; rfl,hb⟩
 ·have t0 : ((xs.length : Int) != (ys.length : Int)) = true:=by
   have : ¬ (xs.length : Int) = (ys.length : Int):=by omega
   simpa using this
  have e0 : decide (xs = ys) = false:=by rw [decide_eq_false_iff_not]; exact fun e => hl (by rw [e])
  rw [e0]
  go_enter Tryz.func176,Tryz.ntmps176
  go_wp2
  go_ret
  exact ⟨rfl,Below.refl _ _⟩
def covB (f g : Nat → Rg) : Nat → Bool
 | 0 => true
 | n + 1 => covB f g n && (g n).within (f n)
theorem zpz {f g : Nat → Rg} {n j : Nat} (hj : j < n) (h : (g j).within (f j) = false) : covB f g n = false:=by
 induction n with
 | zero => omega
 | succ n ih =>
  unfold covB
  by_cases e : j = n
  ·subst e; rw [h,Bool.and_false]
  ·rw [ih (by omega),Bool.false_and]
theorem zlv {w : World} (g1 o1 c1 g2 o2 c2 n : Nat) (f g : Nat → Rg) (hn : n ≤ 16) (h1 : ∀ r,r < n → w.cell? ⟨g1,o1 + r * 2,none⟩ = some (.int .i64 (f r).lo) ∧ w.cell? ⟨g1,o1 + r * 2 + 1,none⟩ = some (.int .i64 (f r).hi)) (h2 : ∀ r,r < n → w.cell? ⟨g2,o2 + r * 2,none⟩ = some (.int .i64 (g r).lo) ∧ w.cell? ⟨g2,o2 + r * 2 + 1,none⟩ = some (.int .i64 (g r).hi)) (l1 : g1 < w.heap.size) (l2 : g2 < w.heap.size) :
  Calls Tryz.prog 177 #[.slice (some ⟨g1,o1,none⟩) n c1,.slice (some ⟨g2,o2,none⟩) n c2] w fun e w' => e = .returned (.bool (covB f g n)) ∧ Below w.heap.size w w':=by
 go_enter Tryz.func177,Tryz.ntmps177
 go_wp2
 go_loopw [9] (fun ti wr => ∃ j : Nat,j ≤ n ∧ ti = .int .i64 (j : Int) ∧ covB f g j = true ∧ Below w.heap.size w wr) (fun ti _ => n - (intOf ti).toNat)
 case atStart => exact ⟨0,by omega,rfl,rfl,Below.refl _ _⟩
 case round =>
  obtain ⟨j,hj,rfl,hA,hb⟩:=hrel
  have hj0 : (0 : Int) ≤ (j : Int):=by omega
  by_cases hx : j < n
  ·have hx1 : (j : Int) < (n : Int):=by omega
   have KC : ∀ q i W,q < w.heap.size → Below w.heap.size w W → W.cell? ⟨q,i,none⟩ = w.cell? ⟨q,i,none⟩:=fun q i W hq hW => World.cell?_of_block (a:=⟨q,i,none⟩) (hW.block q hq)
   obtain ⟨d0,d1⟩:=h2 j hx
   rw [← KC g2 _ wr l2 hb] at d0 d1
   obtain ⟨A,hA2⟩ : ∃ A,wr.alloc (.cells #[.int .i64 (g j).lo,.int .i64 (g j).hi] 213) = A:=⟨_,rfl⟩
   have HL : ∀ W,Below A.heap.size A W → Below w.heap.size w W:=fun W hW => by subst hA2; exact hb.trans ((box1.trans (hW.mono (by simp))).mono hb.size)
   have HF : ∀ W,Below A.heap.size A W → (W.cell? ⟨wr.heap.size,0,none⟩ = some (.int .i64 (g j).lo) ∧ W.cell? ⟨wr.heap.size,1,none⟩ = some (.int .i64 (g j).hi)) ∧ (W.cell? ⟨g1,o1 + j * 2,none⟩ = some (.int .i64 (f j).lo) ∧ W.cell? ⟨g1,o1 + j * 2 + 1,none⟩ = some (.int .i64 (f j).hi)):=fun W hW =>
    ⟨by subst hA2; exact ⟨za2 hW 0,za2 hW 1⟩,(KC _ _ W l1 (HL W hW)).trans (h1 j hx).1,(KC _ _ W l1 (HL W hW)).trans (h1 j hx).2⟩
   by_cases hc : (g j).within (f j) = true
   ·go_wp2
    refine zad 6 (fun W => Below A.heap.size A W) (Below.refl _ _).drew (by kernel_rfl) (by kernel_rfl) ?_
    simp only [List.take_succ_cons,List.take_zero,List.drop_succ_cons,List.drop_zero]
    repeat (refine zab rfl ?_ (fun W hW => ?_) ?_; rotate_left 1; · (obtain ⟨⟨f0,f1⟩,f2,f3⟩:=HF W hW; go_simp; with_reducible rfl))
    refine zaI rfl 182 #[rv (g j),rv (f j)] (.bool ((g j).within (f j))) (fun W hW => ?_) (fun W hW => (ziQ _ _ W).mono (fun e w' hh => ⟨hh.1,hW.trans (hh.2.mono hW.size)⟩)) ?_
    ·go_simp
    refine wpQuiet_nil ?_
    intro W hW
    have hW2:=HL W hW
    go_wp2
    go_roundw
    case rel => exact ⟨j + 1,by omega,by go_num,by unfold covB; rw [hA,hc]; rfl,hW2⟩
    case measure => simp [intOf]; omega
   ·have hc2 : (g j).within (f j) = false:=by simpa using hc
    clear hc
    go_wp2
    refine zad 6 (fun W => Below A.heap.size A W) (Below.refl _ _).drew (by kernel_rfl) (by kernel_rfl) ?_
    simp only [List.take_succ_cons,List.take_zero,List.drop_succ_cons,List.drop_zero]
    repeat (refine zab rfl ?_ (fun W hW => ?_) ?_; rotate_left 1; · (obtain ⟨⟨f0,f1⟩,f2,f3⟩:=HF W hW; go_simp; with_reducible rfl))
    refine zaI rfl 182 #[rv (g j),rv (f j)] (.bool ((g j).within (f j))) (fun W hW => ?_) (fun W hW => (ziQ _ _ W).mono (fun e w' hh => ⟨hh.1,hW.trans (hh.2.mono hW.size)⟩)) ?_
    ·go_simp
    refine wpQuiet_nil ?_
    intro W hW
    have hW2:=HL W hW
    go_wp2
    go_ret
    exact ⟨by rw [zpz hx hc2]; rfl,hW2⟩
  ·have hx2 : decide ((j : Int) < (n : Int)) = false:=by simpa using hx
   obtain rfl : j = n:=by omega
   go_wp2
   go_ret
   exact ⟨by rw [hA]; rfl,hb⟩
def zcg (k o : Kn) : Bool:=decide (k.next = o.next) && (decide (k.behind = o.behind) && (covB k.regs o.regs 8 && covB k.cells o.cells 16))
theorem zm9 {w : World} {b c oo b1 c1 : Nat} {a1 a2 : Option Addr} {k o : Kn} (h : KnM w b (.slice a1 k.behind.length b1) k) (h2 : KnR w c oo (.slice a2 o.behind.length c1) o) (B1 : BhM w a1 b1 k.behind) (B2 : BhM w a2 c1 o.behind) : Calls Tryz.prog 168 #[.pointer (some ⟨b,0,none⟩),.pointer (some ⟨c,oo,none⟩)] w fun e w' => e = .returned (.bool (zcg k o)) ∧ Below w.heap.size w w':=by
 have hc : c < w.heap.size:=World.block_lt_of_cell? w _ h2.cN
 have HK : ∀ W,Below w.heap.size w W → KnM W b (.slice a1 k.behind.length b1) k ∧ KnR W c oo (.slice a2 o.behind.length c1) o:=fun W hW => ⟨h.below hW h.lt,h2.block (hW.block c hc)⟩
 have HF : ∀ W,Below w.heap.size w W → W.cell? ⟨b,48,none⟩ = some (.int .i64 k.next) ∧ W.cell? ⟨c,oo + 48,none⟩ = some (.int .i64 o.next) ∧ W.cell? ⟨b,49,none⟩ = some (.slice a1 k.behind.length b1) ∧ W.cell? ⟨c,oo + 49,none⟩ = some (.slice a2 o.behind.length c1):=fun W hW => by
  obtain ⟨k1,k2⟩:=HK W hW
  exact ⟨k1.cN,k2.cN,k1.cB,k2.cB⟩
 have HE : ∀ W,Below w.heap.size w W → Calls Tryz.prog 176 #[.slice a1 k.behind.length b1,.slice a2 o.behind.length c1] W fun e w' => e = .returned (.bool (decide (k.behind = o.behind))) ∧ Below w.heap.size w w':=fun W hW => (zpy a1 a2 b1 c1 _ _ (B1.below hW) (B2.below hW)).mono fun e w' hh => ⟨hh.1,hW.trans (hh.2.mono hW.size)⟩
 have HR : ∀ W,Below w.heap.size w W → Calls Tryz.prog 177 #[.slice (some ⟨b,0,none⟩) 8 8,.slice (some ⟨c,oo,none⟩) 8 8] W fun e w' => e = .returned (.bool (covB k.regs o.regs 8)) ∧ Below w.heap.size w w':=fun W hW => by
  obtain ⟨k1,k2⟩:=HK W hW
  exact (zlv b 0 8 c oo 8 8 k.regs o.regs (by omega) (fun r hr => by rw [Nat.zero_add]; exact k1.cR r hr) (fun r hr => k2.cR r hr) k1.lt (Nat.lt_of_lt_of_le hc hW.size)).mono fun e w' hh => ⟨hh.1,hW.trans (hh.2.mono hW.size)⟩
 have HC : ∀ W,Below w.heap.size w W → Calls Tryz.prog 177 #[.slice (some ⟨b,16,none⟩) 16 16,.slice (some ⟨c,oo + 16,none⟩) 16 16] W fun e w' => e = .returned (.bool (covB k.cells o.cells 16)) ∧ Below w.heap.size w w':=fun W hW => by
  obtain ⟨k1,k2⟩:=HK W hW
  exact (zlv b 16 16 c (oo + 16) 16 16 k.cells o.cells (by omega) (fun r hr => k1.cC r hr) (fun r hr => by have:=k2.cC r hr; rw [show oo + (16 + r * 2) = oo + 16 + r * 2 by omega,show oo + (16 + r * 2 + 1) = oo + 16 + r * 2 + 1 by omega] at this; exact this) k1.lt (Nat.lt_of_lt_of_le hc hW.size)).mono fun e w' hh => ⟨hh.1,hW.trans (hh.2.mono hW.size)⟩
 by_cases e1 : k.next = o.next
 ·have t1 : (k.next == o.next) = true:=by simpa using e1
  by_cases e2 : k.behind = o.behind
  ·have t2 : decide (k.behind = o.behind) = true:=by simpa using e2
   rw [t2] at HE
   cases e3 : covB k.regs o.regs 8 with
   | false =>
    rw [e3] at HR
    have e0 : zcg k o = false:=by unfold zcg; rw [e3]; simp
    rw [e0]
    clear HC e2 t2 e3 e1 e0
    go_enter Tryz.func168,Tryz.ntmps168
    go_wp2
    refine zad 42 (fun W => Below w.heap.size w W) (Below.refl _ _).drew (by kernel_rfl) (by kernel_rfl) ?_
    simp only [List.take_succ_cons,List.take_zero,List.drop_succ_cons,List.drop_zero]
    iterate 10 (refine zab rfl ?_ (fun W hW => ?_) ?_; rotate_left 1; · (obtain ⟨f0,f1,f2,f3⟩:=HF W hW; go_simp; with_reducible rfl))
    simp only [Act.put,List.setIfInBounds_toArray,List.set_cons_zero,List.set_cons_succ]
    iterate 8 (go_big_quiet_want; rename_i K hK; refine ⟨?_,fun W hW => ?_,hK _ ?_⟩; rotate_left 1; (· (obtain ⟨f0,f1,f2,f3⟩:=HF W hW; unfold Oper.quietAt; go_simp; with_reducible rfl)); clear hK K; simp only [Act.put,List.setIfInBounds_toArray,List.set_cons_zero,List.set_cons_succ])
    go_big_quiet_want; rename_i K hK; refine ⟨.bool true,fun W hW => ?_,hK _ ?_⟩
    ·unfold Oper.quietAt; go_simp
    clear hK K
    simp only [Act.put,List.setIfInBounds_toArray,List.set_cons_zero,List.set_cons_succ]
    iterate 2 (refine zab rfl ?_ (fun W hW => ?_) ?_; rotate_left 1; · (obtain ⟨f0,f1,f2,f3⟩:=HF W hW; go_simp; with_reducible rfl))
    simp only [Act.put,List.setIfInBounds_toArray,List.set_cons_zero,List.set_cons_succ]
    iterate 8 (go_big_quiet_want; rename_i K hK; refine ⟨?_,fun W hW => ?_,hK _ ?_⟩; rotate_left 1; (· (obtain ⟨f0,f1,f2,f3⟩:=HF W hW; unfold Oper.quietAt; go_simp; with_reducible rfl)); clear hK K; simp only [Act.put,List.setIfInBounds_toArray,List.set_cons_zero,List.set_cons_succ])
    go_big_quiet_want; rename_i K hK; refine ⟨.bool false,fun W hW => ?_,hK _ ?_⟩
    ·unfold Oper.quietAt; go_simp
    clear hK K
    simp only [Act.put,List.setIfInBounds_toArray,List.set_cons_zero,List.set_cons_succ]
    iterate 2 (refine zab rfl ?_ (fun W hW => ?_) ?_; rotate_left 1; · (obtain ⟨f0,f1,f2,f3⟩:=HF W hW; go_simp; with_reducible rfl))
    simp only [Act.put,List.setIfInBounds_toArray,List.set_cons_zero,List.set_cons_succ]
    iterate 9 go_big_quiet_skip
    iterate 1 (refine zab rfl ?_ (fun W hW => ?_) ?_; rotate_left 1; · (obtain ⟨f0,f1,f2,f3⟩:=HF W hW; go_simp; with_reducible rfl))
    simp only [Act.put,List.setIfInBounds_toArray,List.set_cons_zero,List.set_cons_succ]
    refine wpQuiet_nil ?_
    intro W hW
    go_wp2
    go_ret
    exact ⟨rfl,hW⟩
   | true =>
    rw [e3] at HR
    have e0 : zcg k o = covB k.cells o.cells 16:=by unfold zcg; rw [e3,t2,show decide (k.next = o.next) = true by simpa using e1]; simp
    rw [e0]
    clear e2 t2 e3 e1 e0
    go_enter Tryz.func168,Tryz.ntmps168
    go_wp2
    refine zad 42 (fun W => Below w.heap.size w W) (Below.refl _ _).drew (by kernel_rfl) (by kernel_rfl) ?_
    simp only [List.take_succ_cons,List.take_zero,List.drop_succ_cons,List.drop_zero]
    iterate 10 (refine zab rfl ?_ (fun W hW => ?_) ?_; rotate_left 1; · (obtain ⟨f0,f1,f2,f3⟩:=HF W hW; go_simp; with_reducible rfl))
    simp only [Act.put,List.setIfInBounds_toArray,List.set_cons_zero,List.set_cons_succ]
    iterate 8 (go_big_quiet_want; rename_i K hK; refine ⟨?_,fun W hW => ?_,hK _ ?_⟩; rotate_left 1; (· (obtain ⟨f0,f1,f2,f3⟩:=HF W hW; unfold Oper.quietAt; go_simp; with_reducible rfl)); clear hK K; simp only [Act.put,List.setIfInBounds_toArray,List.set_cons_zero,List.set_cons_succ])
    go_big_quiet_want; rename_i K hK; refine ⟨.bool true,fun W hW => ?_,hK _ ?_⟩
    ·unfold Oper.quietAt; go_simp
    clear hK K
    simp only [Act.put,List.setIfInBounds_toArray,List.set_cons_zero,List.set_cons_succ]
    iterate 2 (refine zab rfl ?_ (fun W hW => ?_) ?_; rotate_left 1; · (obtain ⟨f0,f1,f2,f3⟩:=HF W hW; go_simp; with_reducible rfl))
    simp only [Act.put,List.setIfInBounds_toArray,List.set_cons_zero,List.set_cons_succ]
    iterate 8 (go_big_quiet_want; rename_i K hK; refine ⟨?_,fun W hW => ?_,hK _ ?_⟩; rotate_left 1; (· (obtain ⟨f0,f1,f2,f3⟩:=HF W hW; unfold Oper.quietAt; go_simp; with_reducible rfl)); clear hK K; simp only [Act.put,List.setIfInBounds_toArray,List.set_cons_zero,List.set_cons_succ])
    go_big_quiet_want; rename_i K hK; refine ⟨.bool true,fun W hW => ?_,hK _ ?_⟩
    ·unfold Oper.quietAt; go_simp
    clear hK K
    simp only [Act.put,List.setIfInBounds_toArray,List.set_cons_zero,List.set_cons_succ]
    iterate 2 (refine zab rfl ?_ (fun W hW => ?_) ?_; rotate_left 1; · (obtain ⟨f0,f1,f2,f3⟩:=HF W hW; go_simp; with_reducible rfl))
    simp only [Act.put,List.setIfInBounds_toArray,List.set_cons_zero,List.set_cons_succ]
    iterate 8 (go_big_quiet_want; rename_i K hK; refine ⟨?_,fun W hW => ?_,hK _ ?_⟩; rotate_left 1; (· (obtain ⟨f0,f1,f2,f3⟩:=HF W hW; unfold Oper.quietAt; go_simp; with_reducible rfl)); clear hK K; simp only [Act.put,List.setIfInBounds_toArray,List.set_cons_zero,List.set_cons_succ])
    go_big_quiet_want; rename_i K hK; refine ⟨.bool (covB k.cells o.cells 16),fun W hW => ?_,hK _ ?_⟩
    ·unfold Oper.quietAt; go_simp
    clear hK K
    simp only [Act.put,List.setIfInBounds_toArray,List.set_cons_zero,List.set_cons_succ]
    iterate 1 (refine zab rfl ?_ (fun W hW => ?_) ?_; rotate_left 1; · (obtain ⟨f0,f1,f2,f3⟩:=HF W hW; go_simp; with_reducible rfl))
    simp only [Act.put,List.setIfInBounds_toArray,List.set_cons_zero,List.set_cons_succ]
    refine wpQuiet_nil ?_
    intro W hW
    go_wp2
    go_ret
    exact ⟨rfl,hW⟩
  ·have t2 : decide (k.behind = o.behind) = false:=by simpa using e2
   rw [t2] at HE
   have e0 : zcg k o = false:=by unfold zcg; rw [t2]; simp
   rw [e0]
   clear HR HC e2 t2 e1 e0
   go_enter Tryz.func168,Tryz.ntmps168
   go_wp2
   refine zad 42 (fun W => Below w.heap.size w W) (Below.refl _ _).drew (by kernel_rfl) (by kernel_rfl) ?_
   simp only [List.take_succ_cons,List.take_zero,List.drop_succ_cons,List.drop_zero]
   iterate 10 (refine zab rfl ?_ (fun W hW => ?_) ?_; rotate_left 1; · (obtain ⟨f0,f1,f2,f3⟩:=HF W hW; go_simp; with_reducible rfl))
   simp only [Act.put,List.setIfInBounds_toArray,List.set_cons_zero,List.set_cons_succ]
   iterate 8 (go_big_quiet_want; rename_i K hK; refine ⟨?_,fun W hW => ?_,hK _ ?_⟩; rotate_left 1; (· (obtain ⟨f0,f1,f2,f3⟩:=HF W hW; unfold Oper.quietAt; go_simp; with_reducible rfl)); clear hK K; simp only [Act.put,List.setIfInBounds_toArray,List.set_cons_zero,List.set_cons_succ])
   go_big_quiet_want; rename_i K hK; refine ⟨.bool false,fun W hW => ?_,hK _ ?_⟩
   ·unfold Oper.quietAt; go_simp
   clear hK K
   simp only [Act.put,List.setIfInBounds_toArray,List.set_cons_zero,List.set_cons_succ]
   iterate 2 (refine zab rfl ?_ (fun W hW => ?_) ?_; rotate_left 1; · (obtain ⟨f0,f1,f2,f3⟩:=HF W hW; go_simp; with_reducible rfl))
   simp only [Act.put,List.setIfInBounds_toArray,List.set_cons_zero,List.set_cons_succ]
   iterate 9 go_big_quiet_skip
   iterate 2 (refine zab rfl ?_ (fun W hW => ?_) ?_; rotate_left 1; · (obtain ⟨f0,f1,f2,f3⟩:=HF W hW; go_simp; with_reducible rfl))
   simp only [Act.put,List.setIfInBounds_toArray,List.set_cons_zero,List.set_cons_succ]
   iterate 9 go_big_quiet_skip
   iterate 1 (refine zab rfl ?_ (fun W hW => ?_) ?_; rotate_left 1; · (obtain ⟨f0,f1,f2,f3⟩:=HF W hW; go_simp; with_reducible rfl))
   simp only [Act.put,List.setIfInBounds_toArray,List.set_cons_zero,List.set_cons_succ]
   refine wpQuiet_nil ?_
   intro W hW
   go_wp2
   go_ret
   exact ⟨rfl,hW⟩
 ·have t1 : (k.next == o.next) = false:=by simpa using e1
  have e0 : zcg k o = false:=by unfold zcg; rw [show decide (k.next = o.next) = false by simpa using e1]; simp
  rw [e0]
  clear HR HC HE e0 e1
  go_enter Tryz.func168,Tryz.ntmps168
  go_wp2
  refine zad 42 (fun W => Below w.heap.size w W) (Below.refl _ _).drew (by kernel_rfl) (by kernel_rfl) ?_
  simp only [List.take_succ_cons,List.take_zero,List.drop_succ_cons,List.drop_zero]
  iterate 10 (refine zab rfl ?_ (fun W hW => ?_) ?_; rotate_left 1; · (obtain ⟨f0,f1,f2,f3⟩:=HF W hW; go_simp; with_reducible rfl))
  simp only [Act.put,List.setIfInBounds_toArray,List.set_cons_zero,List.set_cons_succ]
  iterate 9 go_big_quiet_skip
  iterate 2 (refine zab rfl ?_ (fun W hW => ?_) ?_; rotate_left 1; · (obtain ⟨f0,f1,f2,f3⟩:=HF W hW; go_simp; with_reducible rfl))
  simp only [Act.put,List.setIfInBounds_toArray,List.set_cons_zero,List.set_cons_succ]
  iterate 9 go_big_quiet_skip
  iterate 2 (refine zab rfl ?_ (fun W hW => ?_) ?_; rotate_left 1; · (obtain ⟨f0,f1,f2,f3⟩:=HF W hW; go_simp; with_reducible rfl))
  simp only [Act.put,List.setIfInBounds_toArray,List.set_cons_zero,List.set_cons_succ]
  iterate 9 go_big_quiet_skip
  iterate 1 (refine zab rfl ?_ (fun W hW => ?_) ?_; rotate_left 1; · (obtain ⟨f0,f1,f2,f3⟩:=HF W hW; go_simp; with_reducible rfl))
  simp only [Act.put,List.setIfInBounds_toArray,List.set_cons_zero,List.set_cons_succ]
  refine wpQuiet_nil ?_
  intro W hW
  go_wp2
  go_ret
  exact ⟨rfl,hW⟩
end Go.Proofs.YtfpgjkbjbbgciaaGreatDoor
