import Derived.Test.YtfpgjkbjbbgciaaGreatDoorMd07
import Derived.Test.YtfpgjkbjbbgciaaGreatDoorMd09
import Derived.Deep.RegionHeld3
set_option maxRecDepth 100000
set_option maxHeartbeats 8000000
namespace Go.Proofs.YtfpgjkbjbbgciaaGreatDoor
open Go.RowKit Sp
theorem zdb(L:List Said)(g cap k:Nat)(w:World)(hL:LinesIn w g L)(hn:L.length≤1048577)(hk:k≤L.length+1):
  Calls Tryz.prog 88 #[.slice (some ⟨g,0,none⟩) L.length cap,.int .i64 (k:Int)] w fun e w'=>e=.returned (.int .i64 (zad L k))∧w'=w:=by
 go_enter Tryz.func88,Tryz.ntmps88
 go_wp2
 go_loop [5] (fun t=>∃ j:Nat,j≤L.length+1∧t=.int .i64 (j:Int)∧zad L k=zad L j) (fun t=>L.length+1-(intOf t).toNat)
 case atStart=>exact⟨k,hk,rfl,rfl⟩
 case round =>
  obtain⟨j,hj,rfl,hR⟩:=hrel
  have HR:Hid (zad L k=zad L j):=hR
  clear hR
  by_cases hlt:j<L.length
  ·have hc:=hL.kind j hlt
   have hb:=zd8 (hL.wf j hlt)
   cases h102:(L[j].kind != 102) with
   | false =>
    have HQ:Hid (zad L k=-1):=HR.out.trans (zje L j hlt (by simpa using h102))
    go_wp2
    go_ret
    exact⟨zbX (by rw [HQ.out]),rfl⟩
   | true =>
    cases h105:(L[j].kind == 105) with
    | true =>
     have HQ:Hid (zad L k=j):=HR.out.trans (ze3 L j hlt (by simpa using h105))
     go_wp2
     go_ret
     exact⟨zbX (by rw [HQ.out]),rfl⟩
    | false =>
     have HQ:Hid (zad L k=zad L (j+1)):=HR.out.trans (zeg L j hlt (by simpa using h102) (by simpa using h105))
     go_wp2
     go_round
     case rel=>exact⟨j+1,by omega,by go_num,HQ.out⟩
     case measure=>simp [intOf];omega
  ·have HQ:Hid (zad L k=-1):=HR.out.trans (zgK L j hlt)
   go_wp2
   go_ret
   exact⟨zbX (by rw [HQ.out]),rfl⟩
theorem zso(a b:Int):wrap64 (a+b)=zbr 0 a b:=by simp [zbr,w64,wrap64]
theorem zsp(a b:Int):wrap64 (a-b)=zbr 1 a b:=by simp [zbr,w64,wrap64]
theorem zsq(a b:Int):wrap64 (a*b)=zbr 2 a b:=by simp [zbr,w64,wrap64]
theorem zpF(a b:Int)(w:World):Calls Tryz.prog 111 #[.string ⟨#[97,100,100]⟩,.int .i64 a,.int .i64 b] w fun e w'=>e=.returned (.int .i64 (zbr 0 a b))∧w'=w:=by
 go_enter Tryz.func111,Tryz.ntmps111
 go_wp2
 go_ret
 exact⟨zbX (zso a b),rfl⟩
theorem zpG(a b:Int)(w:World):Calls Tryz.prog 111 #[.string ⟨#[115,117,98]⟩,.int .i64 a,.int .i64 b] w fun e w'=>e=.returned (.int .i64 (zbr 1 a b))∧w'=w:=by
 go_enter Tryz.func111,Tryz.ntmps111
 go_wp2
 go_ret
 exact⟨zbX (zsp a b),rfl⟩
theorem zpH(a b:Int)(w:World):Calls Tryz.prog 111 #[.string ⟨#[109,117,108]⟩,.int .i64 a,.int .i64 b] w fun e w'=>e=.returned (.int .i64 (zbr 2 a b))∧w'=w:=by
 go_enter Tryz.func111,Tryz.ntmps111
 go_wp2
 go_ret
 exact⟨zbX (zsq a b),rfl⟩
abbrev i64s(l:List Int):List Value:=l.map (Value.int .i64)
structure RefM(w:World)(b:Nat)(lv bv iv ov:Value)(m:Mc):Prop where
 cL:w.cell? ⟨b,0,none⟩=some lv
 cAt:w.cell? ⟨b,1,none⟩=some (.int .i64 m.at')
 cB:w.cell? ⟨b,2,none⟩=some bv
 cI:w.cell? ⟨b,3,none⟩=some iv
 cS:w.cell? ⟨b,4,none⟩=some (.int .i64 m.steps)
 cR:∀ i,i<8→w.cell? ⟨b,5+i,none⟩=some (.int .i64 (m.regs i))
 cC:∀ i,i<16→w.cell? ⟨b,13+i,none⟩=some (.int .i64 (m.cells i))
 cO:w.cell? ⟨b,29,none⟩=some ov
 cF:w.cell? ⟨b,30,none⟩=some (.int .i64 m.frames)
 cP:w.cell? ⟨b,31,none⟩=some (.int .i64 m.peak)
 cA:w.cell? ⟨b,32,none⟩=some (.int .i64 0)
 cE:w.cell? ⟨b,33,none⟩=some (.int .i64 m.fin)
 fz:∀ o,w.frozen? ⟨b,o,none⟩=false
theorem zan(w:World)(b o j:Nat)(v u:Value)(hu:w.cell? ⟨b,o,none⟩=some u):(w.setCell ⟨b,o,none⟩ v).cell? ⟨b,j,none⟩=if j=o then some v else w.cell? ⟨b,j,none⟩:=by
 by_cases h:j=o
 ·subst h;rw [if_pos rfl];exact World.cell?_setCell_same w _ _ hu
 ·rw [if_neg h,World.cell?_setCell_other];simp
theorem zbI(w:World)(b o j:Nat)(v:Value)(h:w.frozen? ⟨b,j,none⟩=false):(w.setCell ⟨b,o,none⟩ v).frozen? ⟨b,j,none⟩=false:=by simpa using h
theorem RefM.setAt{w:World}{b:Nat}{lv bv iv ov:Value}{m:Mc}(h:RefM w b lv bv iv ov m)(x:Int):RefM (w.setCell ⟨b,1,none⟩ (.int .i64 x)) b lv bv iv ov { m with at':=x }:=by
 have e:=fun j=>zan w b (1) j (.int .i64 x) _ h.cAt
 exact⟨by rw [e,if_neg (by omega)];exact h.cL,by rw [e,if_pos rfl],by rw [e,if_neg (by omega)];exact h.cB,by rw [e,if_neg (by omega)];exact h.cI,by rw [e,if_neg (by omega)];exact h.cS,fun i hi=>by rw [e,if_neg (by omega)];exact h.cR i hi,fun i hi=>by rw [e,if_neg (by omega)];exact h.cC i hi,by rw [e,if_neg (by omega)];exact h.cO,by rw [e,if_neg (by omega)];exact h.cF,by rw [e,if_neg (by omega)];exact h.cP,by rw [e,if_neg (by omega)];exact h.cA,by rw [e,if_neg (by omega)];exact h.cE,fun o=>zbI w b _ o _ (h.fz o)⟩
theorem RefM.setB{w:World}{b:Nat}{lv bv iv ov:Value}{m:Mc}(h:RefM w b lv bv iv ov m)(u:Value)(l:List Int):RefM (w.setCell ⟨b,2,none⟩ u) b lv u iv ov { m with backs:=l }:=by
 have e:=fun j=>zan w b (2) j u _ h.cB
 exact⟨by rw [e,if_neg (by omega)];exact h.cL,by rw [e,if_neg (by omega)];exact h.cAt,by rw [e,if_pos rfl],by rw [e,if_neg (by omega)];exact h.cI,by rw [e,if_neg (by omega)];exact h.cS,fun i hi=>by rw [e,if_neg (by omega)];exact h.cR i hi,fun i hi=>by rw [e,if_neg (by omega)];exact h.cC i hi,by rw [e,if_neg (by omega)];exact h.cO,by rw [e,if_neg (by omega)];exact h.cF,by rw [e,if_neg (by omega)];exact h.cP,by rw [e,if_neg (by omega)];exact h.cA,by rw [e,if_neg (by omega)];exact h.cE,fun o=>zbI w b _ o _ (h.fz o)⟩
theorem RefM.setI{w:World}{b:Nat}{lv bv iv ov:Value}{m:Mc}(h:RefM w b lv bv iv ov m)(u:Value)(l:List Int):RefM (w.setCell ⟨b,3,none⟩ u) b lv bv u ov { m with inp:=l }:=by
 have e:=fun j=>zan w b (3) j u _ h.cI
 exact⟨by rw [e,if_neg (by omega)];exact h.cL,by rw [e,if_neg (by omega)];exact h.cAt,by rw [e,if_neg (by omega)];exact h.cB,by rw [e,if_pos rfl],by rw [e,if_neg (by omega)];exact h.cS,fun i hi=>by rw [e,if_neg (by omega)];exact h.cR i hi,fun i hi=>by rw [e,if_neg (by omega)];exact h.cC i hi,by rw [e,if_neg (by omega)];exact h.cO,by rw [e,if_neg (by omega)];exact h.cF,by rw [e,if_neg (by omega)];exact h.cP,by rw [e,if_neg (by omega)];exact h.cA,by rw [e,if_neg (by omega)];exact h.cE,fun o=>zbI w b _ o _ (h.fz o)⟩
theorem RefM.setS{w:World}{b:Nat}{lv bv iv ov:Value}{m:Mc}(h:RefM w b lv bv iv ov m)(x:Int):RefM (w.setCell ⟨b,4,none⟩ (.int .i64 x)) b lv bv iv ov { m with steps:=x }:=by
 have e:=fun j=>zan w b (4) j (.int .i64 x) _ h.cS
 exact⟨by rw [e,if_neg (by omega)];exact h.cL,by rw [e,if_neg (by omega)];exact h.cAt,by rw [e,if_neg (by omega)];exact h.cB,by rw [e,if_neg (by omega)];exact h.cI,by rw [e,if_pos rfl],fun i hi=>by rw [e,if_neg (by omega)];exact h.cR i hi,fun i hi=>by rw [e,if_neg (by omega)];exact h.cC i hi,by rw [e,if_neg (by omega)];exact h.cO,by rw [e,if_neg (by omega)];exact h.cF,by rw [e,if_neg (by omega)];exact h.cP,by rw [e,if_neg (by omega)];exact h.cA,by rw [e,if_neg (by omega)];exact h.cE,fun o=>zbI w b _ o _ (h.fz o)⟩
theorem RefM.setR{w:World}{b:Nat}{lv bv iv ov:Value}{m:Mc}(h:RefM w b lv bv iv ov m)(r:Nat)(hr:r<8)(x:Int):RefM (w.setCell ⟨b,5+r,none⟩ (.int .i64 x)) b lv bv iv ov { m with regs:=upd m.regs r x }:=by
 have e:=fun j=>zan w b (5+r) j (.int .i64 x) _ (h.cR r hr)
 exact⟨by rw [e,if_neg (by omega)];exact h.cL,by rw [e,if_neg (by omega)];exact h.cAt,by rw [e,if_neg (by omega)];exact h.cB,by rw [e,if_neg (by omega)];exact h.cI,by rw [e,if_neg (by omega)];exact h.cS,fun i hi=>by
  rw [e]
  by_cases hr':i=r
  ·subst hr';rw [if_pos rfl];show _=some (Value.int .i64 (upd _ _ _ _));rw [zef]
  ·rw [if_neg (by omega)];show _=some (Value.int .i64 (upd _ _ _ _));rw [zdy _ _ _ _ hr'];exact h.cR i hi,fun i hi=>by rw [e,if_neg (by omega)];exact h.cC i hi,by rw [e,if_neg (by omega)];exact h.cO,by rw [e,if_neg (by omega)];exact h.cF,by rw [e,if_neg (by omega)];exact h.cP,by rw [e,if_neg (by omega)];exact h.cA,by rw [e,if_neg (by omega)];exact h.cE,fun o=>zbI w b _ o _ (h.fz o)⟩
theorem RefM.setC{w:World}{b:Nat}{lv bv iv ov:Value}{m:Mc}(h:RefM w b lv bv iv ov m)(r:Nat)(hr:r<16)(x:Int):RefM (w.setCell ⟨b,13+r,none⟩ (.int .i64 x)) b lv bv iv ov { m with cells:=upd m.cells r x }:=by
 have e:=fun j=>zan w b (13+r) j (.int .i64 x) _ (h.cC r hr)
 exact⟨by rw [e,if_neg (by omega)];exact h.cL,by rw [e,if_neg (by omega)];exact h.cAt,by rw [e,if_neg (by omega)];exact h.cB,by rw [e,if_neg (by omega)];exact h.cI,by rw [e,if_neg (by omega)];exact h.cS,fun i hi=>by rw [e,if_neg (by omega)];exact h.cR i hi,fun i hi=>by
  rw [e]
  by_cases hr':i=r
  ·subst hr';rw [if_pos rfl];show _=some (Value.int .i64 (upd _ _ _ _));rw [zef]
  ·rw [if_neg (by omega)];show _=some (Value.int .i64 (upd _ _ _ _));rw [zdy _ _ _ _ hr'];exact h.cC i hi,by rw [e,if_neg (by omega)];exact h.cO,by rw [e,if_neg (by omega)];exact h.cF,by rw [e,if_neg (by omega)];exact h.cP,by rw [e,if_neg (by omega)];exact h.cA,by rw [e,if_neg (by omega)];exact h.cE,fun o=>zbI w b _ o _ (h.fz o)⟩
theorem RefM.setO{w:World}{b:Nat}{lv bv iv ov:Value}{m:Mc}(h:RefM w b lv bv iv ov m)(u:Value)(l:List Int):RefM (w.setCell ⟨b,29,none⟩ u) b lv bv iv u { m with out:=l }:=by
 have e:=fun j=>zan w b (29) j u _ h.cO
 exact⟨by rw [e,if_neg (by omega)];exact h.cL,by rw [e,if_neg (by omega)];exact h.cAt,by rw [e,if_neg (by omega)];exact h.cB,by rw [e,if_neg (by omega)];exact h.cI,by rw [e,if_neg (by omega)];exact h.cS,fun i hi=>by rw [e,if_neg (by omega)];exact h.cR i hi,fun i hi=>by rw [e,if_neg (by omega)];exact h.cC i hi,by rw [e,if_pos rfl],by rw [e,if_neg (by omega)];exact h.cF,by rw [e,if_neg (by omega)];exact h.cP,by rw [e,if_neg (by omega)];exact h.cA,by rw [e,if_neg (by omega)];exact h.cE,fun o=>zbI w b _ o _ (h.fz o)⟩
theorem RefM.setF{w:World}{b:Nat}{lv bv iv ov:Value}{m:Mc}(h:RefM w b lv bv iv ov m)(x:Int):RefM (w.setCell ⟨b,30,none⟩ (.int .i64 x)) b lv bv iv ov { m with frames:=x }:=by
 have e:=fun j=>zan w b (30) j (.int .i64 x) _ h.cF
 exact⟨by rw [e,if_neg (by omega)];exact h.cL,by rw [e,if_neg (by omega)];exact h.cAt,by rw [e,if_neg (by omega)];exact h.cB,by rw [e,if_neg (by omega)];exact h.cI,by rw [e,if_neg (by omega)];exact h.cS,fun i hi=>by rw [e,if_neg (by omega)];exact h.cR i hi,fun i hi=>by rw [e,if_neg (by omega)];exact h.cC i hi,by rw [e,if_neg (by omega)];exact h.cO,by rw [e,if_pos rfl],by rw [e,if_neg (by omega)];exact h.cP,by rw [e,if_neg (by omega)];exact h.cA,by rw [e,if_neg (by omega)];exact h.cE,fun o=>zbI w b _ o _ (h.fz o)⟩
theorem RefM.setP{w:World}{b:Nat}{lv bv iv ov:Value}{m:Mc}(h:RefM w b lv bv iv ov m)(x:Int):RefM (w.setCell ⟨b,31,none⟩ (.int .i64 x)) b lv bv iv ov { m with peak:=x }:=by
 have e:=fun j=>zan w b (31) j (.int .i64 x) _ h.cP
 exact⟨by rw [e,if_neg (by omega)];exact h.cL,by rw [e,if_neg (by omega)];exact h.cAt,by rw [e,if_neg (by omega)];exact h.cB,by rw [e,if_neg (by omega)];exact h.cI,by rw [e,if_neg (by omega)];exact h.cS,fun i hi=>by rw [e,if_neg (by omega)];exact h.cR i hi,fun i hi=>by rw [e,if_neg (by omega)];exact h.cC i hi,by rw [e,if_neg (by omega)];exact h.cO,by rw [e,if_neg (by omega)];exact h.cF,by rw [e,if_pos rfl],by rw [e,if_neg (by omega)];exact h.cA,by rw [e,if_neg (by omega)];exact h.cE,fun o=>zbI w b _ o _ (h.fz o)⟩
theorem RefM.setE{w:World}{b:Nat}{lv bv iv ov:Value}{m:Mc}(h:RefM w b lv bv iv ov m)(x:Int):RefM (w.setCell ⟨b,33,none⟩ (.int .i64 x)) b lv bv iv ov { m with fin:=x }:=by
 have e:=fun j=>zan w b (33) j (.int .i64 x) _ h.cE
 exact⟨by rw [e,if_neg (by omega)];exact h.cL,by rw [e,if_neg (by omega)];exact h.cAt,by rw [e,if_neg (by omega)];exact h.cB,by rw [e,if_neg (by omega)];exact h.cI,by rw [e,if_neg (by omega)];exact h.cS,fun i hi=>by rw [e,if_neg (by omega)];exact h.cR i hi,fun i hi=>by rw [e,if_neg (by omega)];exact h.cC i hi,by rw [e,if_neg (by omega)];exact h.cO,by rw [e,if_neg (by omega)];exact h.cF,by rw [e,if_neg (by omega)];exact h.cP,by rw [e,if_neg (by omega)];exact h.cA,by rw [e,if_pos rfl],fun o=>zbI w b _ o _ (h.fz o)⟩
theorem RefM.of_block{w w':World}{b:Nat}{lv bv iv ov:Value}{m:Mc}(h:RefM w b lv bv iv ov m)(e:w'.heap[b]?=w.heap[b]?):RefM w' b lv bv iv ov m:=by
 have z:∀ j,w'.cell? ⟨b,j,none⟩=w.cell? ⟨b,j,none⟩:=fun j=>World.cell?_of_block (w:=w) e
 have f:∀ j,w'.frozen? ⟨b,j,none⟩=w.frozen? ⟨b,j,none⟩:=fun j=>World.frozen?_of_block (w:=w) e
 exact⟨by rw [z];exact h.cL,by rw [z];exact h.cAt,by rw [z];exact h.cB,by rw [z];exact h.cI,by rw [z];exact h.cS,fun i hi=>by rw [z];exact h.cR i hi,fun i hi=>by rw [z];exact h.cC i hi,by rw [z];exact h.cO,by rw [z];exact h.cF,by rw [z];exact h.cP,by rw [z];exact h.cA,by rw [z];exact h.cE,fun o=>by rw [f];exact h.fz o⟩
theorem RefM.lt{w:World}{b:Nat}{lv bv iv ov:Value}{m:Mc}(h:RefM w b lv bv iv ov m):b<w.heap.size:=by have:=World.block_lt_of_cell? w _ h.cL;simpa using this
def WdIn(w:World)(wb:Nat)(l:List ByteArray):Prop:=∀ j (h:j<l.length),w.cell? ⟨wb,j,none⟩=some (.string l[j])
theorem RefM.drew{w:World}{b:Nat}{lv bv iv ov:Value}{m:Mc}(h:RefM w b lv bv iv ov m):RefM w.drew b lv bv iv ov m:=h.of_block rfl
theorem RefM.drewN{w:World}{b:Nat}{lv bv iv ov:Value}{m:Mc}(h:RefM w b lv bv iv ov m)(n:Nat):RefM (w.drewN n) b lv bv iv ov m:=h.of_block rfl
theorem zaN(w:World)(n:Nat):Below w.heap.size w (w.drewN n):=⟨rfl,rfl,rfl,Nat.le_refl _,fun _ _=>rfl⟩
theorem zcz(x:Int):wrap64 x=w64 x:=by simp [w64,wrap64]
theorem zap(x:ByteArray)(r:Nat)(hreg:reg x=(r:Int))(h:x.size≤1048576):∀ W,Calls Tryz.prog 75 #[.string x] W fun e w'=>e=.returned (.int .i64 (r:Int))∧w'=W:=fun W=>by
 rw [←hreg];exact zms x W (by unfold maxLen;omega)
theorem zlb(x:ByteArray)(h:x.size≤1048576):∀ W,Calls Tryz.prog 76 #[.string x] W fun e w'=>e=.returned (.tuple #[.int .i64 (zaE x).1,.bool (zaE x).2])∧w'=W:=fun W=>zmx x W (by omega)
theorem zsr(w:World)(b r n:Nat)(lv bv iv ov:Value)(m:Mc)(x:ByteArray)(h:RefM w b lv bv iv ov m)(hr:r<8)(hreg:reg x=(r:Int))(h1:x.size≤1048576)(hn:m.regs r=(n:Int))(hn16:n<16):
  Calls Tryz.prog 112 #[.pointer (some ⟨b,0,none⟩),.string x] w fun e w'=>e=.returned (.int .i64 (n:Int))∧∃ k,w'=w.drewN k:=by
 have hcr:=h.cR r hr
 rw [hn] at hcr
 have hr0:(0:Int)≤(r:Int):=by omega
 have hr8:(r:Int)<8:=by omega
 have g1:=zap x r hreg h1
 have hn0:((n:Int)<0)=False:=by simp
 have hn15:((15:Int)<(n:Int))=False:=by simp;omega
 go_enter Tryz.func112,Tryz.ntmps112
 go_wp2_with fail
 go_quiet(first|(go_at_call 75;exact Calls.quiet_of_same (g1 _)))
 go_wp2
 go_ret
 exact⟨rfl,_,rfl⟩
theorem zod(w:World)(b r:Nat)(lv bv iv ov:Value)(m:Mc)(x:ByteArray)(h:RefM w b lv bv iv ov m)(hr:r<8)(hreg:reg x=(r:Int))(h1:x.size≤1048576)(hn:m.regs r<0∨15<m.regs r):
  Calls Tryz.prog 112 #[.pointer (some ⟨b,0,none⟩),.string x] w fun e w'=>e=.returned (.int .i64 (-1))∧RefM w' b lv bv iv ov { m with fin:=3 }∧w.grownBy w' (some b):=by
 have hcr:=h.cR r hr
 have hce:=h.cE
 have hfz:=h.fz 33
 have hr0:(0:Int)≤(r:Int):=by omega
 have hr8:(r:Int)<8:=by omega
 have g1:=zap x r hreg h1
 generalize m.regs r=v at hcr hn
 by_cases hv:v<0
 ·go_enter Tryz.func112,Tryz.ntmps112
  go_wp2_with fail
  go_quiet(first|(go_at_call 75;exact Calls.quiet_of_same (g1 _)))
  go_wp2
  go_ret
  exact⟨rfl,((h.drewN nq).setE 3),zac (zaN _ _)⟩
 ·have hv2:15<v:=by omega
  go_enter Tryz.func112,Tryz.ntmps112
  go_wp2_with fail
  go_quiet(first|(go_at_call 75;exact Calls.quiet_of_same (g1 _)))
  go_wp2
  go_ret
  exact⟨rfl,((h.drewN nq).setE 3),zac (zaN _ _)⟩
theorem zuR(w:World)(b wb cap r:Nat)(lv bv iv ov:Value)(m:Mc)(x1 x2:ByteArray)(h:RefM w b lv bv iv ov m)(hw:WdIn w wb [⟨#[115,101,116]⟩,x1,x2])(_hne:¬wb=b)(hr:r<8)(hreg:reg x1=(r:Int))(h1:x1.size≤1048576)(h2:x2.size≤1048576):
  Calls Tryz.prog 90 #[.pointer (some ⟨b,0,none⟩),.slice (some ⟨wb,0,none⟩) 3 cap] w fun e w'=>e=.returned (.tuple #[])∧RefM w' b lv bv iv ov { m with regs:=upd m.regs r (zaE x2).1 }∧w.grownBy w' (some b):=by
 have c0:=hw 0 (by simp)
 have c1:=hw 1 (by simp)
 have c2:=hw 2 (by simp)
 simp only [List.getElem_cons_zero,List.getElem_cons_succ] at c0 c1 c2
 have hcr:=h.cR r hr
 have hfz:=h.fz (5+r)
 have hr0:(0:Int)≤(r:Int):=by omega
 have hr8:(r:Int)<8:=by omega
 have g1:=zap x1 r hreg h1
 have g2:=zlb x2 h2
 generalize (zaE x2).1=v at g2 ⊢
 generalize (zaE x2).2=ok at g2
 go_enter Tryz.func90,Tryz.ntmps90
 go_wp2_with(first|(go_at_call 75;refine(g1 _).mono ?_;rintro e wx ⟨rfl,hww⟩;have hw2:=hww.symm;subst hw2))
 go_region_with(go_at_call 76;refine(g2 _).mono ?_;rintro e wx ⟨rfl,hww⟩;have hw2:=hww.symm;subst hw2)
 all_goals go_wp2
 all_goals go_end0
 all_goals exact⟨rfl,(h.setR r hr v).drew,zby (zac (Below.refl _ _))⟩
theorem zuS(w:World)(b wb cap r s:Nat)(lv bv iv ov:Value)(m:Mc)(x1 x2:ByteArray)(h:RefM w b lv bv iv ov m)(hw:WdIn w wb [⟨#[109,111,118]⟩,x1,x2])(_hne:¬wb=b)(hr:r<8)(hreg:reg x1=(r:Int))(hs:s<8)(hreg2:reg x2=(s:Int))(hx1:x1.size≤1048576)(hx2:x2.size≤1048576):
  Calls Tryz.prog 90 #[.pointer (some ⟨b,0,none⟩),.slice (some ⟨wb,0,none⟩) 3 cap] w fun e w'=>e=.returned (.tuple #[])∧RefM w' b lv bv iv ov { m with regs:=upd m.regs r (m.regs s) }∧w.grownBy w' (some b):=by
 have c0:=hw 0 (by simp)
 have c1:=hw 1 (by simp)
 have c2:=hw 2 (by simp)
 simp only [List.getElem_cons_zero,List.getElem_cons_succ] at c0 c1 c2
 have hcr:=h.cR r hr
 have hfz:=h.fz (5+r)
 have hr0:(0:Int)≤(r:Int):=by omega
 have hr8:(r:Int)<8:=by omega
 have g1:=zap x1 r hreg hx1
 have hcs:=h.cR s hs
 have hs0:(0:Int)≤(s:Int):=by omega
 have hs8:(s:Int)<8:=by omega
 have g2:=zap x2 s hreg2 hx2
 go_enter Tryz.func90,Tryz.ntmps90
 go_wp2_with(first|(go_at_call 75;refine(g1 _).mono ?_;rintro e wx ⟨rfl,hww⟩;have hw2:=hww.symm;subst hw2))
 go_region_with(first|(go_at_call_of 75 (Value.string x2);refine(g2 _).mono ?_;rintro e wx ⟨rfl,hww⟩;have hw2:=hww.symm;subst hw2)|(go_at_call 75;refine(g2 _).mono ?_;rintro e wx ⟨rfl,hww⟩;have hw2:=hww.symm;subst hw2))
 all_goals go_wp2
 all_goals go_end0
 all_goals exact⟨rfl,(h.setR r hr _).drew,zby (zac (Below.refl _ _))⟩
theorem zuT(w:World)(b wb cap r:Nat)(lv bv iv ov:Value)(m:Mc)(x1 x2:ByteArray)(h:RefM w b lv bv iv ov m)(hw:WdIn w wb [⟨#[105,110,99]⟩,x1,x2])(_hne:¬wb=b)(hr:r<8)(hreg:reg x1=(r:Int))(hx1:x1.size≤1048576)(hx2:x2.size≤1048576):
  Calls Tryz.prog 90 #[.pointer (some ⟨b,0,none⟩),.slice (some ⟨wb,0,none⟩) 3 cap] w fun e w'=>e=.returned (.tuple #[])∧RefM w' b lv bv iv ov { m with regs:=upd m.regs r (w64 (m.regs r+(zaE x2).1)) }∧w.grownBy w' (some b):=by
 have c0:=hw 0 (by simp)
 have c1:=hw 1 (by simp)
 have c2:=hw 2 (by simp)
 simp only [List.getElem_cons_zero,List.getElem_cons_succ] at c0 c1 c2
 have hcr:=h.cR r hr
 have hfz:=h.fz (5+r)
 have hr0:(0:Int)≤(r:Int):=by omega
 have hr8:(r:Int)<8:=by omega
 have g1:=zap x1 r hreg hx1
 have g2:=zlb x2 hx2
 generalize (zaE x2).1=v at g2 ⊢
 generalize (zaE x2).2=ok at g2
 go_enter Tryz.func90,Tryz.ntmps90
 go_wp2_with(first|(go_at_call 75;refine(g1 _).mono ?_;rintro e wx ⟨rfl,hww⟩;have hw2:=hww.symm;subst hw2)|(go_at_call 76;refine(g2 _).mono ?_;rintro e wx ⟨rfl,hww⟩;have hw2:=hww.symm;subst hw2))
 go_region
 all_goals go_wp2
 all_goals go_end0
 all_goals rw [zcz]
 all_goals exact⟨rfl,(h.setR r hr _).drew,zby (zac (Below.refl _ _))⟩
theorem zr6(now:ByteArray)(l:List ByteArray):(zfj now l).length≤l.length+1:=by
 unfold zfj;split <;> simp
theorem zfm(s:ByteArray)(i:Nat)(now:ByteArray)(l:List ByteArray):(za4 s i now l).length≤l.length+(s.size-i)+1:=by
 have hf:=zr6 now l
 by_cases h:i<s.size
 ·by_cases h1:bt s i=32∨bt s i=9∨bt s i=59
  ·by_cases h2:bt s i=59
   ·rw [zc4 s i now l h h2];omega
   ·rw [zb2 s i now l h (by omega)]
    have:=zfm s (i+1) ByteArray.empty (zfj now l)
    omega
  ·rw [zeK s i now l h h1]
   have:=zfm s (i+1) (now++s.extract i (i+1)) l
   omega
 ·rw [zcQ s i now l h];omega
termination_by s.size-i
theorem zk2(s:ByteArray):(words s).length≤s.size+1:=by
 have:=zfm s 0 ByteArray.empty []
 simpa [words] using this
theorem zk3(x:ByteArray):(zaa x).length≤3:=by
 unfold zaa
 repeat' split
 all_goals decide
theorem zr7(x:ByteArray)(h:zk0 x=true):x=⟨#[102,117,110,99]⟩:=zaw x _ h
theorem zw0(s:ByteArray)(w:World)(hs:s.size≤1048576):Calls Tryz.prog 46 #[.string s] w (zcl w.heap.size w (say s)):=by
 cases hv:zao s 0 with
 | false =>
  have e:say s=⟨0,[],false⟩:=by simp [say,hv]
  rw [e];exact zwz s w hs hv
 | true =>
  have e:say s=sayW (words s):=by simp [say,hv]
  rw [e]
  have hsz:=zfl s
  have hln:=zk2 s
  cases hl:words s with
  | nil=>exact zus s w hs hv hl
  | cons x r =>
   rw [hl] at hsz hln
   have hx:=hsz x (by simp)
   have hr:r.length≤1048576:=by simp at hln;omega
   cases hf:zk0 x with
   | true =>
    have e1:sayW (x :: r)=⟨102,x :: r,decide ((x :: r).length=2)&&za2 ((x :: r).getLast?.getD ByteArray.empty)⟩:=by simp only [sayW,hf,if_true]
    rw [e1]
    have:=zr7 x hf
    subst this
    match r,hl,hsz with
    | [y],hl,hsz =>
     have h2:=hsz y (by simp)
     exact zr0 s w hs hv y hl (by omega)
    | [],hl,_=>exact zk1 s w hs hv [] hl (by simp)
    | a :: b :: c,hl,_=>simpa using zk1 s w hs hv (a :: b :: c) hl (by simp)
   | false =>
    have hnf:(x.toList == [102,117,110,99])=false:=hf
    have hlastE:=zdE x (x.size-1) (by omega)
    by_cases hlab:(x :: r).length=1∧zfA x=58
    ·have e1:sayW (x :: r)=⟨108,[x.extract 0 (x.size-1)],za2 (x.extract 0 (x.size-1))⟩:=by simp only [sayW,hf];rw [if_neg (by simp),if_pos hlab]
     rw [e1]
     obtain⟨h1,h2⟩:=hlab
     have hr0:r=[]:=List.eq_nil_of_length_eq_zero (by simpa using h1)
     subst hr0
     exact zr1 s w hs hv x hl (by omega) (by omega) hnf (by rw [hlastE,beq_iff_eq];exact h2)
    ·have e1:sayW (x :: r)=⟨105,x :: r,if zaa x=[63]∨¬(x :: r).length=(zaa x).length+1 then false else zaT (zaa x) r⟩:=by simp only [sayW,hf];rw [if_neg (by simp),if_neg hlab]
     rw [e1]
     have hsl:=zk3 x
     by_cases hr0:r=[]
     ·subst hr0
      have hlast:((x[x.size-1].toNat:Int) == 58)=false:=by
       rw [hlastE];simp [zfA] at hlab;simpa using hlab
      by_cases h63:zaa x=[63]
      ·rw [if_pos (.inl h63)]
       exact zr2 s w hs hv x hl (by omega) (by omega) hnf hlast (zaa x) rfl hsl (by simp [h63])
      ·by_cases hn:(zaa x).length=0
       ·have h0:=List.eq_nil_of_length_eq_zero hn
        rw [if_neg (by simp [h0]),h0]
        exact zut s w hs hv x hl (by omega) (by omega) hnf hlast h0
       ·rw [if_pos (.inr (by show ¬1=_;omega))]
        exact zr3 s w hs hv x hl (by omega) (by omega) hnf hlast (zaa x) rfl hsl (by simpa using h63) (by simp;omega)
     ·have hr1:1≤r.length:=by cases r with|nil=>exact absurd rfl hr0|cons a b=>simp
      have hr2:((r.length:Int)+1 == 1)=false:=by simp;omega
      by_cases h63:zaa x=[63]
      ·rw [if_pos (.inl h63)]
       exact zr4 s w hs hv x r hl (by omega) (by omega) hnf hr hr1 hr2 (zaa x) rfl hsl (by simp [h63])
      ·by_cases hn:r.length=(zaa x).length
       ·rw [if_neg (by simp [h63];omega)]
        exact zuu s w hs hv x r hl (by omega) (by omega) hnf hr1 hr2 (fun j hj=>by have:=hsz r[j] (List.mem_cons_of_mem _ (List.getElem_mem hj));omega) (zaa x) rfl hsl (by simpa using h63) hr (by omega) (by omega)
       ·rw [if_pos (.inr (by simp;omega))]
        exact zr5 s w hs hv x r hl (by omega) (by omega) hnf hr hr1 hr2 (zaa x) rfl hsl (by simpa using h63) (zxM _ _ hn)
theorem zuW(w:World)(b wb cap r s t:Nat)(lv bv iv ov:Value)(m:Mc)(x1 x2 x3:ByteArray)(h:RefM w b lv bv iv ov m)(hw:WdIn w wb [⟨#[109,117,108]⟩,x1,x2,x3])(_hne:¬wb=b)(hr:r<8)(hreg:reg x1=(r:Int))(hs:s<8)(hreg2:reg x2=(s:Int))(ht:t<8)(hreg3:reg x3=(t:Int))(hx1:x1.size≤1048576)(hx2:x2.size≤1048576)(hx3:x3.size≤1048576):
  Calls Tryz.prog 90 #[.pointer (some ⟨b,0,none⟩),.slice (some ⟨wb,0,none⟩) 4 cap] w fun e w'=>e=.returned (.tuple #[])∧RefM w' b lv bv iv ov { m with regs:=upd m.regs r (zbr 2 (m.regs s) (m.regs t)) }∧w.grownBy w' (some b):=by
 have c0:=hw 0 (by simp)
 have c1:=hw 1 (by simp)
 have c2:=hw 2 (by simp)
 have c3:=hw 3 (by simp)
 simp only [List.getElem_cons_zero,List.getElem_cons_succ] at c0 c1 c2 c3
 have hcr:=h.cR r hr
 have hfz:=h.fz (5+r)
 have hr0:(0:Int)≤(r:Int):=by omega
 have hr8:(r:Int)<8:=by omega
 have g1:=zap x1 r hreg hx1
 have hcs:=h.cR s hs
 have hs0:(0:Int)≤(s:Int):=by omega
 have hs8:(s:Int)<8:=by omega
 have hct:=h.cR t ht
 have ht0:(0:Int)≤(t:Int):=by omega
 have ht8:(t:Int)<8:=by omega
 have g2:=zap x2 s hreg2 hx2
 have g3:=zap x3 t hreg3 hx3
 have g4:=fun W=>zpH (m.regs s) (m.regs t) W
 generalize zbr 2 (m.regs s) (m.regs t)=v at g4 ⊢
 go_enter Tryz.func90,Tryz.ntmps90
 go_wp2_with(first|(go_at_call 75;refine(g1 _).mono ?_;rintro e wx ⟨rfl,hww⟩;have hw2:=hww.symm;subst hw2))
 refine zak 30 (by kernel_rfl) (by kernel_rfl) ?_
 simp only [List.take,List.drop]
 repeat(go_big_quiet_step (first|(go_at_call 111;exact Calls.quiet_of_same (g4 _))|(go_at_call_of 75 (Value.string x2);exact Calls.quiet_of_same (g2 _))|(go_at_call_of 75 (Value.string x3);exact Calls.quiet_of_same (g3 _))))
 refine wpQuiet_nil ?_
 rintro _ ⟨nq,rfl⟩
 go_wp2
 go_end0
 exact⟨rfl,(h.drewN nq).setR r hr _,zac (zaN _ _)⟩
theorem zw3(L:List Said)(k:Nat)(h:k<L.length)(h1:(L[k].kind == 102)=true)(hl:1<L[k].kept.length):zcF L k=decide (zaJ L (L[k].kept[1]) 0<k):=by
 rw [beq_iff_eq] at h1
 unfold zcF;rw [List.getElem?_eq_getElem h];simp only [h1,if_true,zcE _ 1 hl]
theorem zw4(L:List Said)(k:Nat)(h:k<L.length)(h1:(L[k].kind == 108)=true)(hl:0<L[k].kept.length):zcF L k=decide (zbZ L k (L[k].kept[0])<k):=by
 rw [beq_iff_eq] at h1
 unfold zcF;rw [List.getElem?_eq_getElem h];simp only [h1,zcE _ 0 hl];simp
theorem zw5(L:List Said)(k:Nat)(h:k<L.length)(h1:(L[k].kind == 102)=false)(h2:(L[k].kind == 108)=false):zcF L k=false:=by
 simp at h1 h2
 unfold zcF;rw [List.getElem?_eq_getElem h];simp only [h1,h2,if_false]
theorem zk4(L:List Said)(g cap k:Nat)(w:World)(hL:LinesIn w g L)(hn:L.length≤1048577)(hk:k<L.length):
  Calls Tryz.prog 47 #[.slice (some ⟨g,0,none⟩) L.length cap,.int .i64 (k:Int)] w fun e w'=>e=.returned (.bool (zcF L k))∧w'=w:=by
 have hc:=hL.kind k hk
 have hb:=zd8 (hL.wf k hk)
 cases h102:(L[k].kind == 102) with
 | true =>
  have h2:=wf_f (hL.wf k hk) h102
  have hlen:1<L[k].kept.length:=by omega
  obtain⟨b,c,hw,hwc⟩:=hL.words k hk (by omega)
  have hw1:=hwc 1 hlen
  clear hwc
  have HT:Hid (decide (zaJ L (L[k].kept[1]) 0<k)=zcF L k):=(zw3 L k hk h102 hlen).symm
  rw [h2] at hw
  go_enter Tryz.func47,Tryz.ntmps47
  go_wp2_with(go_at_call 77;refine(znS L g cap _ _ hL hn).mono ?_;rintro e w' ⟨rfl,rfl⟩)
  go_ret
  exact⟨za9 HT.out,rfl⟩
 | false =>
  cases h108:(L[k].kind == 108) with
  | true =>
   have h2:=wf_l (hL.wf k hk) h108
   have hlen:0<L[k].kept.length:=by omega
   obtain⟨b,c,hw,hwc⟩:=hL.words k hk (by omega)
   have hw1:=hwc 0 hlen
   clear hwc
   have HT:Hid (decide (zbZ L k (L[k].kept[0])<k)=zcF L k):=(zw4 L k hk h108 hlen).symm
   rw [h2] at hw
   go_enter Tryz.func47,Tryz.ntmps47
   go_wp2_with(go_at_call 78;refine(zfn L g cap k _ _ hL hn hk).mono ?_;rintro e w' ⟨rfl,rfl⟩)
   go_ret
   exact⟨za9 HT.out,rfl⟩
  | false =>
   have HT:Hid (false=zcF L k):=(zw5 L k hk h102 h108).symm
   go_enter Tryz.func47,Tryz.ntmps47
   go_wp2
   go_ret
   exact⟨za9 HT.out,rfl⟩
end Go.Proofs.YtfpgjkbjbbgciaaGreatDoor
