import Derived.Test.YtfpgjkbjbbgciaaGreatDoorMc11
set_option maxRecDepth 100000
set_option maxHeartbeats 8000000
namespace Go.Proofs.YtfpgjkbjbbgciaaGreatDoor
open Go.RowKit Sp
theorem zcS (L : List Said) (g cap k : Nat) (w : World) (hL : LinesIn w g L) (hn : L.length ≤ 1048577) (hk : k ≤ L.length + 1) :
  Calls Tryz.prog 88 #[.slice (some ⟨g,0,none⟩) L.length cap,.int .i64 (k : Int)] w fun e w' => e = .returned (.int .i64 (zac L k)) ∧ w' = w:=by
 go_enter Tryz.func88,Tryz.ntmps88
 go_wp2
 go_loop [5] (fun t => ∃ j : Nat,j ≤ L.length + 1 ∧ t = .int .i64 (j : Int) ∧ zac L k = zac L j) (fun t => L.length + 1 - (intOf t).toNat)
 case atStart => exact ⟨k,hk,rfl,rfl⟩
 case round =>
  obtain ⟨j,hj,rfl,hR⟩:=hrel
  have HR : Hid (zac L k = zac L j):=hR
  clear hR
  by_cases hlt : j < L.length
  ·have hc:=hL.kind j hlt
   have hb:=zdw (hL.wf j hlt)
   cases h102 : (L[j].kind != 102) with
   | false =>
    have HQ : Hid (zac L k = -1):=HR.out.trans (zi6 L j hlt (by simpa using h102))
    go_wp2
    go_ret
    exact ⟨zbH (by rw [HQ.out]),rfl⟩
   | true =>
    cases h105 : (L[j].kind == 105) with
    | true =>
     have HQ : Hid (zac L k = j):=HR.out.trans (zeo L j hlt (by simpa using h105))
     go_wp2
     go_ret
     exact ⟨zbH (by rw [HQ.out]),rfl⟩
    | false =>
     have HQ : Hid (zac L k = zac L (j + 1)):=HR.out.trans (zdU L j hlt (by simpa using h102) (by simpa using h105))
     go_wp2
     go_round
     case rel => exact ⟨j + 1,by omega,by go_num,HQ.out⟩
     case measure => simp [intOf]; omega
  ·have HQ : Hid (zac L k = -1):=HR.out.trans (zgw L j hlt)
   go_wp2
   go_ret
   exact ⟨zbH (by rw [HQ.out]),rfl⟩
theorem zvv (a b : Int) : wrap64 (a + b) = zbv 0 a b:=by simp [zbv,w64,wrap64]
theorem zvw (a b : Int) : wrap64 (a - b) = zbv 1 a b:=by simp [zbv,w64,wrap64]
theorem zvx (a b : Int) : wrap64 (a * b) = zbv 2 a b:=by simp [zbv,w64,wrap64]
theorem zoI (a b : Int) (w : World) : Calls Tryz.prog 111 #[.string ⟨#[97,100,100]⟩,.int .i64 a,.int .i64 b] w fun e w' => e = .returned (.int .i64 (zbv 0 a b)) ∧ w' = w:=by
 go_enter Tryz.func111,Tryz.ntmps111
 go_wp2
 go_ret
 exact ⟨zbH (zvv a b),rfl⟩
theorem zoJ (a b : Int) (w : World) : Calls Tryz.prog 111 #[.string ⟨#[115,117,98]⟩,.int .i64 a,.int .i64 b] w fun e w' => e = .returned (.int .i64 (zbv 1 a b)) ∧ w' = w:=by
 go_enter Tryz.func111,Tryz.ntmps111
 go_wp2
 go_ret
 exact ⟨zbH (zvw a b),rfl⟩
theorem zoK (a b : Int) (w : World) : Calls Tryz.prog 111 #[.string ⟨#[109,117,108]⟩,.int .i64 a,.int .i64 b] w fun e w' => e = .returned (.int .i64 (zbv 2 a b)) ∧ w' = w:=by
 go_enter Tryz.func111,Tryz.ntmps111
 go_wp2
 go_ret
 exact ⟨zbH (zvx a b),rfl⟩
abbrev i64s (l : List Int) : List Value:=l.map (Value.int .i64)
structure RefM (w : World) (b : Nat) (lv bv iv ov : Value) (m : Mc) : Prop where
 cL : w.cell? ⟨b,0,none⟩ = some lv
 cAt : w.cell? ⟨b,1,none⟩ = some (.int .i64 m.at')
 cB : w.cell? ⟨b,2,none⟩ = some bv
 cI : w.cell? ⟨b,3,none⟩ = some iv
 cS : w.cell? ⟨b,4,none⟩ = some (.int .i64 m.steps)
 cR : ∀ i,i < 8 → w.cell? ⟨b,5 + i,none⟩ = some (.int .i64 (m.regs i))
 cC : ∀ i,i < 16 → w.cell? ⟨b,13 + i,none⟩ = some (.int .i64 (m.cells i))
 cO : w.cell? ⟨b,29,none⟩ = some ov
 cF : w.cell? ⟨b,30,none⟩ = some (.int .i64 m.frames)
 cP : w.cell? ⟨b,31,none⟩ = some (.int .i64 m.peak)
 cA : w.cell? ⟨b,32,none⟩ = some (.int .i64 0)
 cE : w.cell? ⟨b,33,none⟩ = some (.int .i64 m.fin)
 fz : ∀ o,w.frozen? ⟨b,o,none⟩ = false
theorem za1 (w : World) (b o j : Nat) (v u : Value) (hu : w.cell? ⟨b,o,none⟩ = some u) : (w.setCell ⟨b,o,none⟩ v).cell? ⟨b,j,none⟩ = if j = o then some v else w.cell? ⟨b,j,none⟩:=by
 by_cases h : j = o
 ·subst h; rw [if_pos rfl]; exact World.cell?_setCell_same w _ _ hu
 ·rw [if_neg h,World.cell?_setCell_other]; simp
theorem zcZ (w : World) (b o j : Nat) (v : Value) (h : w.frozen? ⟨b,j,none⟩ = false) : (w.setCell ⟨b,o,none⟩ v).frozen? ⟨b,j,none⟩ = false:=by simpa using h
theorem RefM.setAt {w : World} {b : Nat} {lv bv iv ov : Value} {m : Mc} (h : RefM w b lv bv iv ov m) (x : Int) : RefM (w.setCell ⟨b,1,none⟩ (.int .i64 x)) b lv bv iv ov { m with at':=x }:=by
 have e:=fun j => za1 w b (1) j (.int .i64 x) _ h.cAt
 exact ⟨by rw [e,if_neg (by omega)]; exact h.cL,by rw [e,if_pos rfl],by rw [e,if_neg (by omega)]; exact h.cB,by rw [e,if_neg (by omega)]; exact h.cI,by rw [e,if_neg (by omega)]; exact h.cS,fun i hi => by rw [e,if_neg (by omega)]; exact h.cR i hi,fun i hi => by rw [e,if_neg (by omega)]; exact h.cC i hi,by rw [e,if_neg (by omega)]; exact h.cO,by rw [e,if_neg (by omega)]; exact h.cF,by rw [e,if_neg (by omega)]; exact h.cP,by rw [e,if_neg (by omega)]; exact h.cA,by rw [e,if_neg (by omega)]; exact h.cE,fun o => zcZ w b _ o _ (h.fz o)⟩
theorem RefM.setB {w : World} {b : Nat} {lv bv iv ov : Value} {m : Mc} (h : RefM w b lv bv iv ov m) (u : Value) (l : List Int) : RefM (w.setCell ⟨b,2,none⟩ u) b lv u iv ov { m with backs:=l }:=by
 have e:=fun j => za1 w b (2) j u _ h.cB
 exact ⟨by rw [e,if_neg (by omega)]; exact h.cL,by rw [e,if_neg (by omega)]; exact h.cAt,by rw [e,if_pos rfl],by rw [e,if_neg (by omega)]; exact h.cI,by rw [e,if_neg (by omega)]; exact h.cS,fun i hi => by rw [e,if_neg (by omega)]; exact h.cR i hi,fun i hi => by rw [e,if_neg (by omega)]; exact h.cC i hi,by rw [e,if_neg (by omega)]; exact h.cO,by rw [e,if_neg (by omega)]; exact h.cF,by rw [e,if_neg (by omega)]; exact h.cP,by rw [e,if_neg (by omega)]; exact h.cA,by rw [e,if_neg (by omega)]; exact h.cE,fun o => zcZ w b _ o _ (h.fz o)⟩
theorem RefM.setI {w : World} {b : Nat} {lv bv iv ov : Value} {m : Mc} (h : RefM w b lv bv iv ov m) (u : Value) (l : List Int) : RefM (w.setCell ⟨b,3,none⟩ u) b lv bv u ov { m with inp:=l }:=by
 have e:=fun j => za1 w b (3) j u _ h.cI
 exact ⟨by rw [e,if_neg (by omega)]; exact h.cL,by rw [e,if_neg (by omega)]; exact h.cAt,by rw [e,if_neg (by omega)]; exact h.cB,by rw [e,if_pos rfl],by rw [e,if_neg (by omega)]; exact h.cS,fun i hi => by rw [e,if_neg (by omega)]; exact h.cR i hi,fun i hi => by rw [e,if_neg (by omega)]; exact h.cC i hi,by rw [e,if_neg (by omega)]; exact h.cO,by rw [e,if_neg (by omega)]; exact h.cF,by rw [e,if_neg (by omega)]; exact h.cP,by rw [e,if_neg (by omega)]; exact h.cA,by rw [e,if_neg (by omega)]; exact h.cE,fun o => zcZ w b _ o _ (h.fz o)⟩
theorem RefM.setS {w : World} {b : Nat} {lv bv iv ov : Value} {m : Mc} (h : RefM w b lv bv iv ov m) (x : Int) : RefM (w.setCell ⟨b,4,none⟩ (.int .i64 x)) b lv bv iv ov { m with steps:=x }:=by
 have e:=fun j => za1 w b (4) j (.int .i64 x) _ h.cS
 exact ⟨by rw [e,if_neg (by omega)]; exact h.cL,by rw [e,if_neg (by omega)]; exact h.cAt,by rw [e,if_neg (by omega)]; exact h.cB,by rw [e,if_neg (by omega)]; exact h.cI,by rw [e,if_pos rfl],fun i hi => by rw [e,if_neg (by omega)]; exact h.cR i hi,fun i hi => by rw [e,if_neg (by omega)]; exact h.cC i hi,by rw [e,if_neg (by omega)]; exact h.cO,by rw [e,if_neg (by omega)]; exact h.cF,by rw [e,if_neg (by omega)]; exact h.cP,by rw [e,if_neg (by omega)]; exact h.cA,by rw [e,if_neg (by omega)]; exact h.cE,fun o => zcZ w b _ o _ (h.fz o)⟩
theorem RefM.setR {w : World} {b : Nat} {lv bv iv ov : Value} {m : Mc} (h : RefM w b lv bv iv ov m) (r : Nat) (hr : r < 8) (x : Int) : RefM (w.setCell ⟨b,5 + r,none⟩ (.int .i64 x)) b lv bv iv ov { m with regs:=upd m.regs r x }:=by
 have e:=fun j => za1 w b (5 + r) j (.int .i64 x) _ (h.cR r hr)
 exact ⟨by rw [e,if_neg (by omega)]; exact h.cL,by rw [e,if_neg (by omega)]; exact h.cAt,by rw [e,if_neg (by omega)]; exact h.cB,by rw [e,if_neg (by omega)]; exact h.cI,by rw [e,if_neg (by omega)]; exact h.cS,fun i hi => by
  rw [e]
  by_cases hr' : i = r
  ·subst hr'; rw [if_pos rfl]; show _ = some (Value.int .i64 (upd _ _ _ _)); rw [zf4]
  ·rw [if_neg (by omega)]; show _ = some (Value.int .i64 (upd _ _ _ _)); rw [zen _ _ _ _ hr']; exact h.cR i hi,fun i hi => by rw [e,if_neg (by omega)]; exact h.cC i hi,by rw [e,if_neg (by omega)]; exact h.cO,by rw [e,if_neg (by omega)]; exact h.cF,by rw [e,if_neg (by omega)]; exact h.cP,by rw [e,if_neg (by omega)]; exact h.cA,by rw [e,if_neg (by omega)]; exact h.cE,fun o => zcZ w b _ o _ (h.fz o)⟩
theorem RefM.setC {w : World} {b : Nat} {lv bv iv ov : Value} {m : Mc} (h : RefM w b lv bv iv ov m) (r : Nat) (hr : r < 16) (x : Int) : RefM (w.setCell ⟨b,13 + r,none⟩ (.int .i64 x)) b lv bv iv ov { m with cells:=upd m.cells r x }:=by
 have e:=fun j => za1 w b (13 + r) j (.int .i64 x) _ (h.cC r hr)
 exact ⟨by rw [e,if_neg (by omega)]; exact h.cL,by rw [e,if_neg (by omega)]; exact h.cAt,by rw [e,if_neg (by omega)]; exact h.cB,by rw [e,if_neg (by omega)]; exact h.cI,by rw [e,if_neg (by omega)]; exact h.cS,fun i hi => by rw [e,if_neg (by omega)]; exact h.cR i hi,fun i hi => by
  rw [e]
  by_cases hr' : i = r
  ·subst hr'; rw [if_pos rfl]; show _ = some (Value.int .i64 (upd _ _ _ _)); rw [zf4]
  ·rw [if_neg (by omega)]; show _ = some (Value.int .i64 (upd _ _ _ _)); rw [zen _ _ _ _ hr']; exact h.cC i hi,by rw [e,if_neg (by omega)]; exact h.cO,by rw [e,if_neg (by omega)]; exact h.cF,by rw [e,if_neg (by omega)]; exact h.cP,by rw [e,if_neg (by omega)]; exact h.cA,by rw [e,if_neg (by omega)]; exact h.cE,fun o => zcZ w b _ o _ (h.fz o)⟩
theorem RefM.setO {w : World} {b : Nat} {lv bv iv ov : Value} {m : Mc} (h : RefM w b lv bv iv ov m) (u : Value) (l : List Int) : RefM (w.setCell ⟨b,29,none⟩ u) b lv bv iv u { m with out:=l }:=by
 have e:=fun j => za1 w b (29) j u _ h.cO
 exact ⟨by rw [e,if_neg (by omega)]; exact h.cL,by rw [e,if_neg (by omega)]; exact h.cAt,by rw [e,if_neg (by omega)]; exact h.cB,by rw [e,if_neg (by omega)]; exact h.cI,by rw [e,if_neg (by omega)]; exact h.cS,fun i hi => by rw [e,if_neg (by omega)]; exact h.cR i hi,fun i hi => by rw [e,if_neg (by omega)]; exact h.cC i hi,by rw [e,if_pos rfl],by rw [e,if_neg (by omega)]; exact h.cF,by rw [e,if_neg (by omega)]; exact h.cP,by rw [e,if_neg (by omega)]; exact h.cA,by rw [e,if_neg (by omega)]; exact h.cE,fun o => zcZ w b _ o _ (h.fz o)⟩
theorem RefM.setF {w : World} {b : Nat} {lv bv iv ov : Value} {m : Mc} (h : RefM w b lv bv iv ov m) (x : Int) : RefM (w.setCell ⟨b,30,none⟩ (.int .i64 x)) b lv bv iv ov { m with frames:=x }:=by
 have e:=fun j => za1 w b (30) j (.int .i64 x) _ h.cF
 exact ⟨by rw [e,if_neg (by omega)]; exact h.cL,by rw [e,if_neg (by omega)]; exact h.cAt,by rw [e,if_neg (by omega)]; exact h.cB,by rw [e,if_neg (by omega)]; exact h.cI,by rw [e,if_neg (by omega)]; exact h.cS,fun i hi => by rw [e,if_neg (by omega)]; exact h.cR i hi,fun i hi => by rw [e,if_neg (by omega)]; exact h.cC i hi,by rw [e,if_neg (by omega)]; exact h.cO,by rw [e,if_pos rfl],by rw [e,if_neg (by omega)]; exact h.cP,by rw [e,if_neg (by omega)]; exact h.cA,by rw [e,if_neg (by omega)]; exact h.cE,fun o => zcZ w b _ o _ (h.fz o)⟩
theorem RefM.setP {w : World} {b : Nat} {lv bv iv ov : Value} {m : Mc} (h : RefM w b lv bv iv ov m) (x : Int) : RefM (w.setCell ⟨b,31,none⟩ (.int .i64 x)) b lv bv iv ov { m with peak:=x }:=by
 have e:=fun j => za1 w b (31) j (.int .i64 x) _ h.cP
 exact ⟨by rw [e,if_neg (by omega)]; exact h.cL,by rw [e,if_neg (by omega)]; exact h.cAt,by rw [e,if_neg (by omega)]; exact h.cB,by rw [e,if_neg (by omega)]; exact h.cI,by rw [e,if_neg (by omega)]; exact h.cS,fun i hi => by rw [e,if_neg (by omega)]; exact h.cR i hi,fun i hi => by rw [e,if_neg (by omega)]; exact h.cC i hi,by rw [e,if_neg (by omega)]; exact h.cO,by rw [e,if_neg (by omega)]; exact h.cF,by rw [e,if_pos rfl],by rw [e,if_neg (by omega)]; exact h.cA,by rw [e,if_neg (by omega)]; exact h.cE,fun o => zcZ w b _ o _ (h.fz o)⟩
theorem RefM.setE {w : World} {b : Nat} {lv bv iv ov : Value} {m : Mc} (h : RefM w b lv bv iv ov m) (x : Int) : RefM (w.setCell ⟨b,33,none⟩ (.int .i64 x)) b lv bv iv ov { m with fin:=x }:=by
 have e:=fun j => za1 w b (33) j (.int .i64 x) _ h.cE
 exact ⟨by rw [e,if_neg (by omega)]; exact h.cL,by rw [e,if_neg (by omega)]; exact h.cAt,by rw [e,if_neg (by omega)]; exact h.cB,by rw [e,if_neg (by omega)]; exact h.cI,by rw [e,if_neg (by omega)]; exact h.cS,fun i hi => by rw [e,if_neg (by omega)]; exact h.cR i hi,fun i hi => by rw [e,if_neg (by omega)]; exact h.cC i hi,by rw [e,if_neg (by omega)]; exact h.cO,by rw [e,if_neg (by omega)]; exact h.cF,by rw [e,if_neg (by omega)]; exact h.cP,by rw [e,if_neg (by omega)]; exact h.cA,by rw [e,if_pos rfl],fun o => zcZ w b _ o _ (h.fz o)⟩
theorem RefM.of_block {w w' : World} {b : Nat} {lv bv iv ov : Value} {m : Mc} (h : RefM w b lv bv iv ov m) (e : w'.heap[b]? = w.heap[b]?) : RefM w' b lv bv iv ov m:=by
 have z : ∀ j,w'.cell? ⟨b,j,none⟩ = w.cell? ⟨b,j,none⟩:=fun j => World.cell?_of_block (w:=w) e
 have f : ∀ j,w'.frozen? ⟨b,j,none⟩ = w.frozen? ⟨b,j,none⟩:=fun j => World.frozen?_of_block (w:=w) e
 exact ⟨by rw [z]; exact h.cL,by rw [z]; exact h.cAt,by rw [z]; exact h.cB,by rw [z]; exact h.cI,by rw [z]; exact h.cS,fun i hi => by rw [z]; exact h.cR i hi,fun i hi => by rw [z]; exact h.cC i hi,by rw [z]; exact h.cO,by rw [z]; exact h.cF,by rw [z]; exact h.cP,by rw [z]; exact h.cA,by rw [z]; exact h.cE,fun o => by rw [f]; exact h.fz o⟩
theorem RefM.lt {w : World} {b : Nat} {lv bv iv ov : Value} {m : Mc} (h : RefM w b lv bv iv ov m) : b < w.heap.size:=by have:=World.block_lt_of_cell? w _ h.cL; simpa using this
end Go.Proofs.YtfpgjkbjbbgciaaGreatDoor
