import Derived.Test.YtfpgjkbjbbgciaaGreatDoorMf21
set_option maxRecDepth 100000
set_option maxHeartbeats 8000000
namespace Go.Proofs.YtfpgjkbjbbgciaaGreatDoor
open Go.RowKit Sp
structure MchM (w : World) (b : Nat) (bv iv ov : Value) (m : Mc) : Prop where
 cR : ∀ i,i < 8 → w.cell? ⟨b,i,none⟩ = some (.int .i64 (m.regs i))
 cC : ∀ i,i < 16 → w.cell? ⟨b,8 + i,none⟩ = some (.int .i64 (m.cells i))
 cI : w.cell? ⟨b,24,none⟩ = some iv
 cO : w.cell? ⟨b,25,none⟩ = some ov
 cN : w.cell? ⟨b,26,none⟩ = some (.int .i64 m.at')
 cB : w.cell? ⟨b,27,none⟩ = some bv
 cS : w.cell? ⟨b,28,none⟩ = some (.int .i64 m.steps)
 cP : w.cell? ⟨b,29,none⟩ = some (.int .i64 m.peak)
 cE : w.cell? ⟨b,30,none⟩ = some (.int .i64 m.fin)
 fz : ∀ o,w.frozen? ⟨b,o,none⟩ = false
theorem MchM.setR {w : World} {b : Nat} {bv iv ov : Value} {m : Mc} (h : MchM w b bv iv ov m) (r : Nat) (hr : r < 8) (x : Int) : MchM (w.setCell ⟨b,r,none⟩ (.int .i64 x)) b bv iv ov { m with regs:=upd m.regs r x }:=by
 have e:=fun j => zbv w b (r) j (.int .i64 x) _ (h.cR r hr)
 exact ⟨fun i hi => by
  rw [e]
  by_cases hr' : i = r
  ·subst hr'; rw [if_pos rfl]; show _ = some (Value.int .i64 (upd _ _ _ _)); rw [zkr]
  ·rw [if_neg (by omega)]; show _ = some (Value.int .i64 (upd _ _ _ _)); rw [zhH _ _ _ _ hr']; exact h.cR i hi,fun i hi => by rw [e,if_neg (by omega)]; exact h.cC i hi,by rw [e,if_neg (by omega)]; exact h.cI,by rw [e,if_neg (by omega)]; exact h.cO,by rw [e,if_neg (by omega)]; exact h.cN,by rw [e,if_neg (by omega)]; exact h.cB,by rw [e,if_neg (by omega)]; exact h.cS,by rw [e,if_neg (by omega)]; exact h.cP,by rw [e,if_neg (by omega)]; exact h.cE,fun o => zcN w b _ o _ (h.fz o)⟩
theorem MchM.setC {w : World} {b : Nat} {bv iv ov : Value} {m : Mc} (h : MchM w b bv iv ov m) (r : Nat) (hr : r < 16) (x : Int) : MchM (w.setCell ⟨b,8 + r,none⟩ (.int .i64 x)) b bv iv ov { m with cells:=upd m.cells r x }:=by
 have e:=fun j => zbv w b (8 + r) j (.int .i64 x) _ (h.cC r hr)
 exact ⟨fun i hi => by rw [e,if_neg (by omega)]; exact h.cR i hi,fun i hi => by
  rw [e]
  by_cases hr' : i = r
  ·subst hr'; rw [if_pos rfl]; show _ = some (Value.int .i64 (upd _ _ _ _)); rw [zkr]
  ·rw [if_neg (by omega)]; show _ = some (Value.int .i64 (upd _ _ _ _)); rw [zhH _ _ _ _ hr']; exact h.cC i hi,by rw [e,if_neg (by omega)]; exact h.cI,by rw [e,if_neg (by omega)]; exact h.cO,by rw [e,if_neg (by omega)]; exact h.cN,by rw [e,if_neg (by omega)]; exact h.cB,by rw [e,if_neg (by omega)]; exact h.cS,by rw [e,if_neg (by omega)]; exact h.cP,by rw [e,if_neg (by omega)]; exact h.cE,fun o => zcN w b _ o _ (h.fz o)⟩
theorem MchM.setI {w : World} {b : Nat} {bv iv ov : Value} {m : Mc} (h : MchM w b bv iv ov m) (u : Value) (l : List Int) : MchM (w.setCell ⟨b,24,none⟩ u) b bv u ov { m with inp:=l }:=by
 have e:=fun j => zbv w b (24) j u _ h.cI
 exact ⟨fun i hi => by rw [e,if_neg (by omega)]; exact h.cR i hi,fun i hi => by rw [e,if_neg (by omega)]; exact h.cC i hi,by rw [e,if_pos rfl],by rw [e,if_neg (by omega)]; exact h.cO,by rw [e,if_neg (by omega)]; exact h.cN,by rw [e,if_neg (by omega)]; exact h.cB,by rw [e,if_neg (by omega)]; exact h.cS,by rw [e,if_neg (by omega)]; exact h.cP,by rw [e,if_neg (by omega)]; exact h.cE,fun o => zcN w b _ o _ (h.fz o)⟩
theorem MchM.setO {w : World} {b : Nat} {bv iv ov : Value} {m : Mc} (h : MchM w b bv iv ov m) (u : Value) (l : List Int) : MchM (w.setCell ⟨b,25,none⟩ u) b bv iv u { m with out:=l }:=by
 have e:=fun j => zbv w b (25) j u _ h.cO
 exact ⟨fun i hi => by rw [e,if_neg (by omega)]; exact h.cR i hi,fun i hi => by rw [e,if_neg (by omega)]; exact h.cC i hi,by rw [e,if_neg (by omega)]; exact h.cI,by rw [e,if_pos rfl],by rw [e,if_neg (by omega)]; exact h.cN,by rw [e,if_neg (by omega)]; exact h.cB,by rw [e,if_neg (by omega)]; exact h.cS,by rw [e,if_neg (by omega)]; exact h.cP,by rw [e,if_neg (by omega)]; exact h.cE,fun o => zcN w b _ o _ (h.fz o)⟩
theorem MchM.setN {w : World} {b : Nat} {bv iv ov : Value} {m : Mc} (h : MchM w b bv iv ov m) (x : Int) : MchM (w.setCell ⟨b,26,none⟩ (.int .i64 x)) b bv iv ov { m with at':=x }:=by
 have e:=fun j => zbv w b (26) j (.int .i64 x) _ h.cN
 exact ⟨fun i hi => by rw [e,if_neg (by omega)]; exact h.cR i hi,fun i hi => by rw [e,if_neg (by omega)]; exact h.cC i hi,by rw [e,if_neg (by omega)]; exact h.cI,by rw [e,if_neg (by omega)]; exact h.cO,by rw [e,if_pos rfl],by rw [e,if_neg (by omega)]; exact h.cB,by rw [e,if_neg (by omega)]; exact h.cS,by rw [e,if_neg (by omega)]; exact h.cP,by rw [e,if_neg (by omega)]; exact h.cE,fun o => zcN w b _ o _ (h.fz o)⟩
theorem MchM.setB {w : World} {b : Nat} {bv iv ov : Value} {m : Mc} (h : MchM w b bv iv ov m) (u : Value) (l : List Int) : MchM (w.setCell ⟨b,27,none⟩ u) b u iv ov { m with backs:=l }:=by
 have e:=fun j => zbv w b (27) j u _ h.cB
 exact ⟨fun i hi => by rw [e,if_neg (by omega)]; exact h.cR i hi,fun i hi => by rw [e,if_neg (by omega)]; exact h.cC i hi,by rw [e,if_neg (by omega)]; exact h.cI,by rw [e,if_neg (by omega)]; exact h.cO,by rw [e,if_neg (by omega)]; exact h.cN,by rw [e,if_pos rfl],by rw [e,if_neg (by omega)]; exact h.cS,by rw [e,if_neg (by omega)]; exact h.cP,by rw [e,if_neg (by omega)]; exact h.cE,fun o => zcN w b _ o _ (h.fz o)⟩
theorem MchM.setS {w : World} {b : Nat} {bv iv ov : Value} {m : Mc} (h : MchM w b bv iv ov m) (x : Int) : MchM (w.setCell ⟨b,28,none⟩ (.int .i64 x)) b bv iv ov { m with steps:=x }:=by
 have e:=fun j => zbv w b (28) j (.int .i64 x) _ h.cS
 exact ⟨fun i hi => by rw [e,if_neg (by omega)]; exact h.cR i hi,fun i hi => by rw [e,if_neg (by omega)]; exact h.cC i hi,by rw [e,if_neg (by omega)]; exact h.cI,by rw [e,if_neg (by omega)]; exact h.cO,by rw [e,if_neg (by omega)]; exact h.cN,by rw [e,if_neg (by omega)]; exact h.cB,by rw [e,if_pos rfl],by rw [e,if_neg (by omega)]; exact h.cP,by rw [e,if_neg (by omega)]; exact h.cE,fun o => zcN w b _ o _ (h.fz o)⟩
theorem MchM.setP {w : World} {b : Nat} {bv iv ov : Value} {m : Mc} (h : MchM w b bv iv ov m) (x : Int) : MchM (w.setCell ⟨b,29,none⟩ (.int .i64 x)) b bv iv ov { m with peak:=x }:=by
 have e:=fun j => zbv w b (29) j (.int .i64 x) _ h.cP
 exact ⟨fun i hi => by rw [e,if_neg (by omega)]; exact h.cR i hi,fun i hi => by rw [e,if_neg (by omega)]; exact h.cC i hi,by rw [e,if_neg (by omega)]; exact h.cI,by rw [e,if_neg (by omega)]; exact h.cO,by rw [e,if_neg (by omega)]; exact h.cN,by rw [e,if_neg (by omega)]; exact h.cB,by rw [e,if_neg (by omega)]; exact h.cS,by rw [e,if_pos rfl],by rw [e,if_neg (by omega)]; exact h.cE,fun o => zcN w b _ o _ (h.fz o)⟩
theorem MchM.setE {w : World} {b : Nat} {bv iv ov : Value} {m : Mc} (h : MchM w b bv iv ov m) (x : Int) : MchM (w.setCell ⟨b,30,none⟩ (.int .i64 x)) b bv iv ov { m with fin:=x }:=by
 have e:=fun j => zbv w b (30) j (.int .i64 x) _ h.cE
 exact ⟨fun i hi => by rw [e,if_neg (by omega)]; exact h.cR i hi,fun i hi => by rw [e,if_neg (by omega)]; exact h.cC i hi,by rw [e,if_neg (by omega)]; exact h.cI,by rw [e,if_neg (by omega)]; exact h.cO,by rw [e,if_neg (by omega)]; exact h.cN,by rw [e,if_neg (by omega)]; exact h.cB,by rw [e,if_neg (by omega)]; exact h.cS,by rw [e,if_neg (by omega)]; exact h.cP,by rw [e,if_pos rfl],fun o => zcN w b _ o _ (h.fz o)⟩
theorem MchM.of_block {w w' : World} {b : Nat} {bv iv ov : Value} {m : Mc} (h : MchM w b bv iv ov m) (e : w'.heap[b]? = w.heap[b]?) : MchM w' b bv iv ov m:=by
 have z : ∀ j,w'.cell? ⟨b,j,none⟩ = w.cell? ⟨b,j,none⟩:=fun j => World.cell?_of_block (w:=w) e
 have f : ∀ j,w'.frozen? ⟨b,j,none⟩ = w.frozen? ⟨b,j,none⟩:=fun j => World.frozen?_of_block (w:=w) e
 exact ⟨fun i hi => by rw [z]; exact h.cR i hi,fun i hi => by rw [z]; exact h.cC i hi,by rw [z]; exact h.cI,by rw [z]; exact h.cO,by rw [z]; exact h.cN,by rw [z]; exact h.cB,by rw [z]; exact h.cS,by rw [z]; exact h.cP,by rw [z]; exact h.cE,fun o => by rw [f]; exact h.fz o⟩
theorem MchM.lt {w : World} {b : Nat} {bv iv ov : Value} {m : Mc} (h : MchM w b bv iv ov m) : b < w.heap.size:=by have:=World.block_lt_of_cell? w _ h.cI; simpa using this
theorem MchM.drew {w : World} {b : Nat} {bv iv ov : Value} {m : Mc} (h : MchM w b bv iv ov m) : MchM w.drew b bv iv ov m:=h.of_block rfl
theorem MchM.drewN {w : World} {b : Nat} {bv iv ov : Value} {m : Mc} (h : MchM w b bv iv ov m) (n : Nat) : MchM (w.drewN n) b bv iv ov m:=h.of_block rfl
theorem MchM.frames {w : World} {b : Nat} {bv iv ov : Value} {m : Mc} (h : MchM w b bv iv ov m) (x : Int) : MchM w b bv iv ov { m with frames:=x }:=⟨h.cR,h.cC,h.cI,h.cO,h.cN,h.cB,h.cS,h.cP,h.cE,h.fz⟩
theorem zn0 (w : World) (b : Nat) (bv iv ov : Value) (m : Mc) (h : MchM w b bv iv ov m) : Calls Tryz.prog 83 #[.pointer (some ⟨b,0,none⟩)] w fun e w' => e = .returned (.bool (m.fin == 0)) ∧ w' = w:=by
 have hc:=h.cE
 go_enter Tryz.func83,Tryz.ntmps83
 go_wp2
 go_ret
 exact ⟨rfl,rfl⟩
theorem zlF (w : World) (b : Nat) (bv iv ov : Value) (m : Mc) (h : MchM w b bv iv ov m) : Calls Tryz.prog 84 #[.pointer (some ⟨b,0,none⟩)] w fun e w' => e = .returned (.int .i64 m.steps) ∧ w' = w:=by
 have hc:=h.cS
 go_enter Tryz.func84,Tryz.ntmps84
 go_wp2
 go_ret
 exact ⟨rfl,rfl⟩
theorem zgd (w : World) (b : Nat) (bv iv ov : Value) (m : Mc) (h : MchM w b bv iv ov m) : Calls Tryz.prog 85 #[.pointer (some ⟨b,0,none⟩)] w fun e w' => e = .returned (.int .i64 m.at') ∧ w' = w:=by
 have hc:=h.cN
 go_enter Tryz.func85,Tryz.ntmps85
 go_wp2
 go_ret
 exact ⟨rfl,rfl⟩
theorem zcG (w : World) (b : Nat) (bv iv ov : Value) (m : Mc) (h : MchM w b bv iv ov m) : Calls Tryz.prog 87 #[.pointer (some ⟨b,0,none⟩)] w fun e w' => e = .returned (.bool (decide (m.fin = 1 ∨ m.fin = 2))) ∧ w' = w:=by
 have hc:=h.cE
 generalize m.fin = x at hc
 cases h1 : (x == 1) with
 | true =>
  obtain rfl : x = 1:=by simpa using h1
  go_enter Tryz.func87,Tryz.ntmps87
  go_wp2
  go_ret
  exact ⟨rfl,rfl⟩
 | false =>
  cases h2 : (x == 2) with
  | true =>
   obtain rfl : x = 2:=by simpa using h2
   go_enter Tryz.func87,Tryz.ntmps87
   go_wp2
   go_ret
   exact ⟨rfl,rfl⟩
  | false =>
   have h3 : decide (x = 1 ∨ x = 2) = false:=by simp at h1 h2 ⊢; exact ⟨h1,h2⟩
   rw [h3]
   go_enter Tryz.func87,Tryz.ntmps87
   go_wp2
   go_ret
   exact ⟨rfl,rfl⟩
theorem zdu (w : World) (b n c : Nat) (ao : Option Addr) (iv ov : Value) (m : Mc) (h : MchM w b (.slice ao n c) iv ov m) (hn : n ≤ 16) (h2 : (m.fin == 2) = false) : Calls Tryz.prog 110 #[.pointer (some ⟨b,0,none⟩)] w fun e w' => e = .returned (.int .i64 ((n : Int) + 1)) ∧ w' = w:=by
 have hc:=h.cE
 have hb:=h.cB
 go_enter Tryz.func110,Tryz.ntmps110
 go_wp2
 go_ret
 exact ⟨rfl,rfl⟩
theorem zjC (w : World) (b : Nat) (bv iv ov : Value) (m : Mc) (h : MchM w b bv iv ov m) (h2 : m.fin = 2) : Calls Tryz.prog 110 #[.pointer (some ⟨b,0,none⟩)] w fun e w' => e = .returned (.int .i64 0) ∧ w' = w:=by
 have hc:=h.cE
 rw [h2] at hc
 go_enter Tryz.func110,Tryz.ntmps110
 go_wp2
 go_ret
 exact ⟨rfl,rfl⟩
theorem zdb (w : World) (b : Nat) (bv iv ov : Value) (m : Mc) (to : Int) (h : MchM w b bv iv ov m) (h0 : 0 ≤ m.steps) (h1 : m.steps ≤ 100000) :
  Calls Tryz.prog 228 #[.pointer (some ⟨b,0,none⟩),.int .i64 to] w fun e w' => e = .returned (.tuple #[]) ∧ MchM w' b bv iv ov (m.goes to) ∧ w.grownBy w' (some b):=by
 have hcs:=h.cS
 have hcn:=h.cN
 have hfs:=h.fz 28
 have hfn:=h.fz 26
 go_enter Tryz.func228,Tryz.ntmps228
 go_wp2
 go_end0
 exact ⟨rfl,(h.setS (m.steps + 1)).setN to,zac (zat (Below.refl _ _)) (zat (Below.refl _ _))⟩
theorem zbd (w : World) (b : Nat) (bv iv ov : Value) (m : Mc) (h : MchM w b bv iv ov m) (h0 : 0 ≤ m.steps) (h1 : m.steps ≤ 100000) (ha : 0 ≤ m.at') (hb : m.at' ≤ 100000) :
  Calls Tryz.prog 225 #[.pointer (some ⟨b,0,none⟩)] w fun e w' => e = .returned (.tuple #[]) ∧ MchM w' b bv iv ov (m.goes (m.at' + 1)) ∧ w.grownBy w' (some b):=by
 have hcn:=h.cN
 have hg:=zdb w b bv iv ov m (m.at' + 1) h h0 h1
 go_enter Tryz.func225,Tryz.ntmps225
 go_wp2_with (first | (go_at_call 228; refine hg.mono ?_; rintro e w2 ⟨rfl,h2,h3⟩))
 go_end0
 exact ⟨rfl,h2,h3⟩
theorem zge (w : World) (b : Nat) (bv iv ov : Value) (m : Mc) (x : Int) (h : MchM w b bv iv ov m) (h0 : 0 ≤ m.steps) (h1 : m.steps ≤ 100000) :
  Calls Tryz.prog 286 #[.pointer (some ⟨b,0,none⟩),.int .i64 x] w fun e w' => e = .returned (.tuple #[]) ∧ MchM w' b bv iv ov { m with steps:=m.steps + 1,fin:=x } ∧ w.grownBy w' (some b):=by
 have hcs:=h.cS
 have hce:=h.cE
 have hfs:=h.fz 28
 have hfe:=h.fz 30
 go_enter Tryz.func286,Tryz.ntmps286
 go_wp2
 go_end0
 exact ⟨rfl,(h.setS (m.steps + 1)).setE x,zac (zat (Below.refl _ _)) (zat (Below.refl _ _))⟩
theorem zn1 (w : World) (b : Nat) (bv iv ov : Value) (m : Mc) (h : MchM w b bv iv ov m) (h0 : 0 ≤ m.steps) (h1 : m.steps ≤ 100000) :
  Calls Tryz.prog 290 #[.pointer (some ⟨b,0,none⟩)] w fun e w' => e = .returned (.tuple #[]) ∧ MchM w' b bv iv ov { m with steps:=m.steps + 1,fin:=1 } ∧ w.grownBy w' (some b):=by
 have hg:=zge w b bv iv ov m 1 h h0 h1
 go_enter Tryz.func290,Tryz.ntmps290
 go_wp2_with (first | (go_at_call 286; refine hg.mono ?_; rintro e w2 ⟨rfl,h2,h3⟩))
 go_end0
 exact ⟨rfl,h2,h3⟩
theorem zk4 (w : World) (b n : Nat) (bv iv ov : Value) (m : Mc) (_h : MchM w b bv iv ov m) (hn : n < 16) :
  Calls Tryz.prog 253 #[.pointer (some ⟨b,0,none⟩),.int .i64 (n : Int)] w fun e w' => e = .returned (.pointer (some ⟨b,8 + n,none⟩)) ∧ w' = w:=by
 have hn0 : (0 : Int) ≤ (n : Int):=by omega
 have hn1 : (n : Int) < 16:=by omega
 go_enter Tryz.func253,Tryz.ntmps253
 go_wp2
 go_ret
 exact ⟨rfl,rfl⟩
theorem zil (w : World) (b : Nat) (bv iv ov : Value) (m : Mc) (x : Int) (h : MchM w b bv iv ov m) (hn : x < 0 ∨ 15 < x) :
  Calls Tryz.prog 253 #[.pointer (some ⟨b,0,none⟩),.int .i64 x] w fun e w' => e = .returned (.pointer none) ∧ MchM w' b bv iv ov { m with fin:=3 } ∧ w.grownBy w' (some b):=by
 have hce:=h.cE
 have hfe:=h.fz 30
 by_cases hx : x < 0
 ·go_enter Tryz.func253,Tryz.ntmps253
  go_wp2
  go_ret
  exact ⟨rfl,h.setE 3,zat (Below.refl _ _)⟩
 ·have hx2 : 16 ≤ x:=by omega
  go_enter Tryz.func253,Tryz.ntmps253
  go_wp2
  go_ret
  exact ⟨rfl,h.setE 3,zat (Below.refl _ _)⟩
theorem zlG (w : World) (b c : Nat) (bv ov : Value) (ao : Option Addr) (m : Mc) (h : MchM w b bv (.slice ao 0 c) ov m) :
  Calls Tryz.prog 261 #[.pointer (some ⟨b,0,none⟩)] w fun e w' => e = .returned (.int .i64 0) ∧ w' = w:=by
 have hci:=h.cI
 go_enter Tryz.func261,Tryz.ntmps261
 go_wp2
 go_ret
 exact ⟨rfl,rfl⟩
theorem zlH (w : World) (b c g o n : Nat) (bv ov : Value) (m : Mc) (x : Int) (l : List Int) (h : MchM w b bv (.slice (some ⟨g,o,none⟩) (n + 1) c) ov m) (hx : w.cell? ⟨g,o,none⟩ = some (.int .i64 x)) (hn : n ≤ 9223372036854775806) (hc : n + 1 ≤ c) :
  Calls Tryz.prog 261 #[.pointer (some ⟨b,0,none⟩)] w fun e w' => e = .returned (.int .i64 x) ∧ (∃ o',MchM w' b bv (.slice (some ⟨g,o',none⟩) n (c - 1)) ov { m with inp:=l } ∧ (n = 0 ∨ o' = o + 1)) ∧ w.grownBy w' (some b):=by
 have hci:=h.cI
 have hfi:=h.fz 24
 have h0:=h
 have hz : (((n : Int) + 1) == 0) = false:=by simp; omega
 go_enter Tryz.func261,Tryz.ntmps261
 go_wp2
 all_goals go_ret
 ·exact ⟨rfl,⟨o,h0.setI (.slice (some ⟨g,o,none⟩) n 0) l,.inl (by omega)⟩,zat (Below.refl _ _)⟩
 ·exact ⟨rfl,⟨o + 1,h0.setI (.slice (some ⟨g,o + 1,none⟩) n (c - 1)) l,.inr rfl⟩,zat (Below.refl _ _)⟩
end Go.Proofs.YtfpgjkbjbbgciaaGreatDoor
