import Derived.Test.YtfpgjkbjbbgciaaGreatDoorMi06
import Derived.Test.YtfpgjkbjbbgciaaGreatDoorMi09
set_option maxRecDepth 100000
set_option maxHeartbeats 8000000
namespace Go.Proofs.YtfpgjkbjbbgciaaGreatDoor
section
open Go.RowKit Sp
structure MchM(w:World)(b:Nat)(bv iv ov:Value)(m:Mc):Prop where
 cR:∀ i,i<8→w.cell? ⟨b,i,none⟩=some (.int .i64 (m.regs i))
 cC:∀ i,i<16→w.cell? ⟨b,8+i,none⟩=some (.int .i64 (m.cells i))
 cI:w.cell? ⟨b,24,none⟩=some iv
 cO:w.cell? ⟨b,25,none⟩=some ov
 cN:w.cell? ⟨b,26,none⟩=some (.int .i64 m.at')
 cB:w.cell? ⟨b,27,none⟩=some bv
 cS:w.cell? ⟨b,28,none⟩=some (.int .i64 m.steps)
 cP:w.cell? ⟨b,29,none⟩=some (.int .i64 m.peak)
 cE:w.cell? ⟨b,30,none⟩=some (.int .i64 m.fin)
 fz:∀ o,w.frozen? ⟨b,o,none⟩=false
theorem MchM.setR{w:World}{b:Nat}{bv iv ov:Value}{m:Mc}(h:MchM w b bv iv ov m)(r:Nat)(hr:r<8)(x:Int):MchM (w.setCell ⟨b,r,none⟩ (.int .i64 x)) b bv iv ov { m with regs:=upd m.regs r x }:=by
 have e:=fun j=>zaq w b (r) j (.int .i64 x) _ (h.cR r hr)
 exact⟨fun i hi=>by
  rw [e]
  by_cases hr':i=r
  ·subst hr';rw [if_pos rfl];show _=some (Value.int .i64 (upd _ _ _ _));rw [zdU]
  ·rw [if_neg (by omega)];show _=some (Value.int .i64 (upd _ _ _ _));rw [zet _ _ _ _ hr'];exact h.cR i hi,fun i hi=>by rw [e,if_neg (by omega)];exact h.cC i hi,by rw [e,if_neg (by omega)];exact h.cI,by rw [e,if_neg (by omega)];exact h.cO,by rw [e,if_neg (by omega)];exact h.cN,by rw [e,if_neg (by omega)];exact h.cB,by rw [e,if_neg (by omega)];exact h.cS,by rw [e,if_neg (by omega)];exact h.cP,by rw [e,if_neg (by omega)];exact h.cE,fun o=>zcE w b _ o _ (h.fz o)⟩
theorem MchM.setC{w:World}{b:Nat}{bv iv ov:Value}{m:Mc}(h:MchM w b bv iv ov m)(r:Nat)(hr:r<16)(x:Int):MchM (w.setCell ⟨b,8+r,none⟩ (.int .i64 x)) b bv iv ov { m with cells:=upd m.cells r x }:=by
 have e:=fun j=>zaq w b (8+r) j (.int .i64 x) _ (h.cC r hr)
 exact⟨fun i hi=>by rw [e,if_neg (by omega)];exact h.cR i hi,fun i hi=>by
  rw [e]
  by_cases hr':i=r
  ·subst hr';rw [if_pos rfl];show _=some (Value.int .i64 (upd _ _ _ _));rw [zdU]
  ·rw [if_neg (by omega)];show _=some (Value.int .i64 (upd _ _ _ _));rw [zet _ _ _ _ hr'];exact h.cC i hi,by rw [e,if_neg (by omega)];exact h.cI,by rw [e,if_neg (by omega)];exact h.cO,by rw [e,if_neg (by omega)];exact h.cN,by rw [e,if_neg (by omega)];exact h.cB,by rw [e,if_neg (by omega)];exact h.cS,by rw [e,if_neg (by omega)];exact h.cP,by rw [e,if_neg (by omega)];exact h.cE,fun o=>zcE w b _ o _ (h.fz o)⟩
theorem MchM.setI{w:World}{b:Nat}{bv iv ov:Value}{m:Mc}(h:MchM w b bv iv ov m)(u:Value)(l:List Int):MchM (w.setCell ⟨b,24,none⟩ u) b bv u ov { m with inp:=l }:=by
 have e:=fun j=>zaq w b (24) j u _ h.cI
 exact⟨fun i hi=>by rw [e,if_neg (by omega)];exact h.cR i hi,fun i hi=>by rw [e,if_neg (by omega)];exact h.cC i hi,by rw [e,if_pos rfl],by rw [e,if_neg (by omega)];exact h.cO,by rw [e,if_neg (by omega)];exact h.cN,by rw [e,if_neg (by omega)];exact h.cB,by rw [e,if_neg (by omega)];exact h.cS,by rw [e,if_neg (by omega)];exact h.cP,by rw [e,if_neg (by omega)];exact h.cE,fun o=>zcE w b _ o _ (h.fz o)⟩
theorem MchM.setO{w:World}{b:Nat}{bv iv ov:Value}{m:Mc}(h:MchM w b bv iv ov m)(u:Value)(l:List Int):MchM (w.setCell ⟨b,25,none⟩ u) b bv iv u { m with out:=l }:=by
 have e:=fun j=>zaq w b (25) j u _ h.cO
 exact⟨fun i hi=>by rw [e,if_neg (by omega)];exact h.cR i hi,fun i hi=>by rw [e,if_neg (by omega)];exact h.cC i hi,by rw [e,if_neg (by omega)];exact h.cI,by rw [e,if_pos rfl],by rw [e,if_neg (by omega)];exact h.cN,by rw [e,if_neg (by omega)];exact h.cB,by rw [e,if_neg (by omega)];exact h.cS,by rw [e,if_neg (by omega)];exact h.cP,by rw [e,if_neg (by omega)];exact h.cE,fun o=>zcE w b _ o _ (h.fz o)⟩
theorem MchM.setN{w:World}{b:Nat}{bv iv ov:Value}{m:Mc}(h:MchM w b bv iv ov m)(x:Int):MchM (w.setCell ⟨b,26,none⟩ (.int .i64 x)) b bv iv ov { m with at':=x }:=by
 have e:=fun j=>zaq w b (26) j (.int .i64 x) _ h.cN
 exact⟨fun i hi=>by rw [e,if_neg (by omega)];exact h.cR i hi,fun i hi=>by rw [e,if_neg (by omega)];exact h.cC i hi,by rw [e,if_neg (by omega)];exact h.cI,by rw [e,if_neg (by omega)];exact h.cO,by rw [e,if_pos rfl],by rw [e,if_neg (by omega)];exact h.cB,by rw [e,if_neg (by omega)];exact h.cS,by rw [e,if_neg (by omega)];exact h.cP,by rw [e,if_neg (by omega)];exact h.cE,fun o=>zcE w b _ o _ (h.fz o)⟩
theorem MchM.setB{w:World}{b:Nat}{bv iv ov:Value}{m:Mc}(h:MchM w b bv iv ov m)(u:Value)(l:List Int):MchM (w.setCell ⟨b,27,none⟩ u) b u iv ov { m with backs:=l }:=by
 have e:=fun j=>zaq w b (27) j u _ h.cB
 exact⟨fun i hi=>by rw [e,if_neg (by omega)];exact h.cR i hi,fun i hi=>by rw [e,if_neg (by omega)];exact h.cC i hi,by rw [e,if_neg (by omega)];exact h.cI,by rw [e,if_neg (by omega)];exact h.cO,by rw [e,if_neg (by omega)];exact h.cN,by rw [e,if_pos rfl],by rw [e,if_neg (by omega)];exact h.cS,by rw [e,if_neg (by omega)];exact h.cP,by rw [e,if_neg (by omega)];exact h.cE,fun o=>zcE w b _ o _ (h.fz o)⟩
theorem MchM.setS{w:World}{b:Nat}{bv iv ov:Value}{m:Mc}(h:MchM w b bv iv ov m)(x:Int):MchM (w.setCell ⟨b,28,none⟩ (.int .i64 x)) b bv iv ov { m with steps:=x }:=by
 have e:=fun j=>zaq w b (28) j (.int .i64 x) _ h.cS
 exact⟨fun i hi=>by rw [e,if_neg (by omega)];exact h.cR i hi,fun i hi=>by rw [e,if_neg (by omega)];exact h.cC i hi,by rw [e,if_neg (by omega)];exact h.cI,by rw [e,if_neg (by omega)];exact h.cO,by rw [e,if_neg (by omega)];exact h.cN,by rw [e,if_neg (by omega)];exact h.cB,by rw [e,if_pos rfl],by rw [e,if_neg (by omega)];exact h.cP,by rw [e,if_neg (by omega)];exact h.cE,fun o=>zcE w b _ o _ (h.fz o)⟩
theorem MchM.setP{w:World}{b:Nat}{bv iv ov:Value}{m:Mc}(h:MchM w b bv iv ov m)(x:Int):MchM (w.setCell ⟨b,29,none⟩ (.int .i64 x)) b bv iv ov { m with peak:=x }:=by
 have e:=fun j=>zaq w b (29) j (.int .i64 x) _ h.cP
 exact⟨fun i hi=>by rw [e,if_neg (by omega)];exact h.cR i hi,fun i hi=>by rw [e,if_neg (by omega)];exact h.cC i hi,by rw [e,if_neg (by omega)];exact h.cI,by rw [e,if_neg (by omega)];exact h.cO,by rw [e,if_neg (by omega)];exact h.cN,by rw [e,if_neg (by omega)];exact h.cB,by rw [e,if_neg (by omega)];exact h.cS,by rw [e,if_pos rfl],by rw [e,if_neg (by omega)];exact h.cE,fun o=>zcE w b _ o _ (h.fz o)⟩
theorem MchM.setE{w:World}{b:Nat}{bv iv ov:Value}{m:Mc}(h:MchM w b bv iv ov m)(x:Int):MchM (w.setCell ⟨b,30,none⟩ (.int .i64 x)) b bv iv ov { m with fin:=x }:=by
 have e:=fun j=>zaq w b (30) j (.int .i64 x) _ h.cE
 exact⟨fun i hi=>by rw [e,if_neg (by omega)];exact h.cR i hi,fun i hi=>by rw [e,if_neg (by omega)];exact h.cC i hi,by rw [e,if_neg (by omega)];exact h.cI,by rw [e,if_neg (by omega)];exact h.cO,by rw [e,if_neg (by omega)];exact h.cN,by rw [e,if_neg (by omega)];exact h.cB,by rw [e,if_neg (by omega)];exact h.cS,by rw [e,if_neg (by omega)];exact h.cP,by rw [e,if_pos rfl],fun o=>zcE w b _ o _ (h.fz o)⟩
theorem MchM.of_block{w w':World}{b:Nat}{bv iv ov:Value}{m:Mc}(h:MchM w b bv iv ov m)(e:w'.heap[b]?=w.heap[b]?):MchM w' b bv iv ov m:=by
 have z:∀ j,w'.cell? ⟨b,j,none⟩=w.cell? ⟨b,j,none⟩:=fun j=>World.cell?_of_block (w:=w) e
 have f:∀ j,w'.frozen? ⟨b,j,none⟩=w.frozen? ⟨b,j,none⟩:=fun j=>World.frozen?_of_block (w:=w) e
 exact⟨fun i hi=>by rw [z];exact h.cR i hi,fun i hi=>by rw [z];exact h.cC i hi,by rw [z];exact h.cI,by rw [z];exact h.cO,by rw [z];exact h.cN,by rw [z];exact h.cB,by rw [z];exact h.cS,by rw [z];exact h.cP,by rw [z];exact h.cE,fun o=>by rw [f];exact h.fz o⟩
theorem MchM.lt{w:World}{b:Nat}{bv iv ov:Value}{m:Mc}(h:MchM w b bv iv ov m):b<w.heap.size:=by have:=World.block_lt_of_cell? w _ h.cI;simpa using this
theorem MchM.drew{w:World}{b:Nat}{bv iv ov:Value}{m:Mc}(h:MchM w b bv iv ov m):MchM w.drew b bv iv ov m:=h.of_block rfl
theorem MchM.drewN{w:World}{b:Nat}{bv iv ov:Value}{m:Mc}(h:MchM w b bv iv ov m)(n:Nat):MchM (w.drewN n) b bv iv ov m:=h.of_block rfl
theorem MchM.frames{w:World}{b:Nat}{bv iv ov:Value}{m:Mc}(h:MchM w b bv iv ov m)(x:Int):MchM w b bv iv ov { m with frames:=x }:=⟨h.cR,h.cC,h.cI,h.cO,h.cN,h.cB,h.cS,h.cP,h.cE,h.fz⟩
theorem zrY(w:World)(b:Nat)(bv iv ov:Value)(m:Mc)(h:MchM w b bv iv ov m):Calls Tryz.prog 83 #[.pointer (some ⟨b,0,none⟩)] w fun e w'=>e=.returned (.bool (m.fin == 0))∧w'=w:=by
 have hc:=h.cE
 go_enter Tryz.func83,Tryz.ntmps83
 go_wp2
 go_ret
 exact⟨rfl,rfl⟩
theorem zpK(w:World)(b:Nat)(bv iv ov:Value)(m:Mc)(h:MchM w b bv iv ov m):Calls Tryz.prog 84 #[.pointer (some ⟨b,0,none⟩)] w fun e w'=>e=.returned (.int .i64 m.steps)∧w'=w:=by
 have hc:=h.cS
 go_enter Tryz.func84,Tryz.ntmps84
 go_wp2
 go_ret
 exact⟨rfl,rfl⟩
theorem zhR(w:World)(b:Nat)(bv iv ov:Value)(m:Mc)(h:MchM w b bv iv ov m):Calls Tryz.prog 85 #[.pointer (some ⟨b,0,none⟩)] w fun e w'=>e=.returned (.int .i64 m.at')∧w'=w:=by
 have hc:=h.cN
 go_enter Tryz.func85,Tryz.ntmps85
 go_wp2
 go_ret
 exact⟨rfl,rfl⟩
theorem zdW(w:World)(b:Nat)(bv iv ov:Value)(m:Mc)(h:MchM w b bv iv ov m):Calls Tryz.prog 87 #[.pointer (some ⟨b,0,none⟩)] w fun e w'=>e=.returned (.bool (decide (m.fin=1∨m.fin=2)))∧w'=w:=by
 have hc:=h.cE
 generalize m.fin=x at hc
 cases h1:(x == 1) with
 | true =>
  obtain rfl:x=1:=by simpa using h1
  go_enter Tryz.func87,Tryz.ntmps87
  go_wp2
  go_ret
  exact⟨rfl,rfl⟩
 | false =>
  cases h2:(x == 2) with
  | true =>
   obtain rfl:x=2:=by simpa using h2
   go_enter Tryz.func87,Tryz.ntmps87
   go_wp2
   go_ret
   exact⟨rfl,rfl⟩
  | false =>
   have h3:decide (x=1∨x=2)=false:=by simp at h1 h2 ⊢;exact⟨h1,h2⟩
   rw [h3]
   go_enter Tryz.func87,Tryz.ntmps87
   go_wp2
   go_ret
   exact⟨rfl,rfl⟩
theorem zeM(w:World)(b n c:Nat)(ao:Option Addr)(iv ov:Value)(m:Mc)(h:MchM w b (.slice ao n c) iv ov m)(hn:n≤16)(h2:(m.fin == 2)=false):Calls Tryz.prog 110 #[.pointer (some ⟨b,0,none⟩)] w fun e w'=>e=.returned (.int .i64 ((n:Int)+1))∧w'=w:=by
 have hc:=h.cE
 have hb:=h.cB
 go_enter Tryz.func110,Tryz.ntmps110
 go_wp2
 go_ret
 exact⟨rfl,rfl⟩
theorem zmX(w:World)(b:Nat)(bv iv ov:Value)(m:Mc)(h:MchM w b bv iv ov m)(h2:m.fin=2):Calls Tryz.prog 110 #[.pointer (some ⟨b,0,none⟩)] w fun e w'=>e=.returned (.int .i64 0)∧w'=w:=by
 have hc:=h.cE
 rw [h2] at hc
 go_enter Tryz.func110,Tryz.ntmps110
 go_wp2
 go_ret
 exact⟨rfl,rfl⟩
theorem zev(w:World)(b:Nat)(bv iv ov:Value)(m:Mc)(to:Int)(h:MchM w b bv iv ov m)(h0:0≤m.steps)(h1:m.steps≤100000):
  Calls Tryz.prog 228 #[.pointer (some ⟨b,0,none⟩),.int .i64 to] w fun e w'=>e=.returned (.tuple #[])∧MchM w' b bv iv ov (m.goes to)∧w.grownBy w' (some b):=by
 have hcs:=h.cS
 have hcn:=h.cN
 have hfs:=h.fz 28
 have hfn:=h.fz 26
 go_enter Tryz.func228,Tryz.ntmps228
 go_wp2
 go_end0
 exact⟨rfl,(h.setS (m.steps+1)).setN to,zai (zah (Below.refl _ _)) (zah (Below.refl _ _))⟩
theorem zbA(w:World)(b:Nat)(bv iv ov:Value)(m:Mc)(h:MchM w b bv iv ov m)(h0:0≤m.steps)(h1:m.steps≤100000)(ha:0≤m.at')(hb:m.at'≤100000):
  Calls Tryz.prog 225 #[.pointer (some ⟨b,0,none⟩)] w fun e w'=>e=.returned (.tuple #[])∧MchM w' b bv iv ov (m.goes (m.at'+1))∧w.grownBy w' (some b):=by
 have hcn:=h.cN
 have hg:=zev w b bv iv ov m (m.at'+1) h h0 h1
 go_enter Tryz.func225,Tryz.ntmps225
 go_wp2_with(first|(go_at_call 228;refine hg.mono ?_;rintro e w2 ⟨rfl,h2,h3⟩))
 go_end0
 exact⟨rfl,h2,h3⟩
theorem zhS(w:World)(b:Nat)(bv iv ov:Value)(m:Mc)(x:Int)(h:MchM w b bv iv ov m)(h0:0≤m.steps)(h1:m.steps≤100000):
  Calls Tryz.prog 286 #[.pointer (some ⟨b,0,none⟩),.int .i64 x] w fun e w'=>e=.returned (.tuple #[])∧MchM w' b bv iv ov { m with steps:=m.steps+1,fin:=x }∧w.grownBy w' (some b):=by
 have hcs:=h.cS
 have hce:=h.cE
 have hfs:=h.fz 28
 have hfe:=h.fz 30
 go_enter Tryz.func286,Tryz.ntmps286
 go_wp2
 go_end0
 exact⟨rfl,(h.setS (m.steps+1)).setE x,zai (zah (Below.refl _ _)) (zah (Below.refl _ _))⟩
theorem zrZ(w:World)(b:Nat)(bv iv ov:Value)(m:Mc)(h:MchM w b bv iv ov m)(h0:0≤m.steps)(h1:m.steps≤100000):
  Calls Tryz.prog 290 #[.pointer (some ⟨b,0,none⟩)] w fun e w'=>e=.returned (.tuple #[])∧MchM w' b bv iv ov { m with steps:=m.steps+1,fin:=1 }∧w.grownBy w' (some b):=by
 have hg:=zhS w b bv iv ov m 1 h h0 h1
 go_enter Tryz.func290,Tryz.ntmps290
 go_wp2_with(first|(go_at_call 286;refine hg.mono ?_;rintro e w2 ⟨rfl,h2,h3⟩))
 go_end0
 exact⟨rfl,h2,h3⟩
theorem zoC(w:World)(b n:Nat)(bv iv ov:Value)(m:Mc)(_h:MchM w b bv iv ov m)(hn:n<16):
  Calls Tryz.prog 253 #[.pointer (some ⟨b,0,none⟩),.int .i64 (n:Int)] w fun e w'=>e=.returned (.pointer (some ⟨b,8+n,none⟩))∧w'=w:=by
 have hn0:(0:Int)≤(n:Int):=by omega
 have hn1:(n:Int)<16:=by omega
 go_enter Tryz.func253,Tryz.ntmps253
 go_wp2
 go_ret
 exact⟨rfl,rfl⟩
theorem zkX(w:World)(b:Nat)(bv iv ov:Value)(m:Mc)(x:Int)(h:MchM w b bv iv ov m)(hn:x<0∨15<x):
  Calls Tryz.prog 253 #[.pointer (some ⟨b,0,none⟩),.int .i64 x] w fun e w'=>e=.returned (.pointer none)∧MchM w' b bv iv ov { m with fin:=3 }∧w.grownBy w' (some b):=by
 have hce:=h.cE
 have hfe:=h.fz 30
 by_cases hx:x<0
 ·go_enter Tryz.func253,Tryz.ntmps253
  go_wp2
  go_ret
  exact⟨rfl,h.setE 3,zah (Below.refl _ _)⟩
 ·have hx2:16≤x:=by omega
  go_enter Tryz.func253,Tryz.ntmps253
  go_wp2
  go_ret
  exact⟨rfl,h.setE 3,zah (Below.refl _ _)⟩
theorem zpL(w:World)(b c:Nat)(bv ov:Value)(ao:Option Addr)(m:Mc)(h:MchM w b bv (.slice ao 0 c) ov m):
  Calls Tryz.prog 261 #[.pointer (some ⟨b,0,none⟩)] w fun e w'=>e=.returned (.int .i64 0)∧w'=w:=by
 have hci:=h.cI
 go_enter Tryz.func261,Tryz.ntmps261
 go_wp2
 go_ret
 exact⟨rfl,rfl⟩
theorem zpM(w:World)(b c g o n:Nat)(bv ov:Value)(m:Mc)(x:Int)(l:List Int)(h:MchM w b bv (.slice (some ⟨g,o,none⟩) (n+1) c) ov m)(hx:w.cell? ⟨g,o,none⟩=some (.int .i64 x))(hn:n≤9223372036854775806)(hc:n+1≤c):
  Calls Tryz.prog 261 #[.pointer (some ⟨b,0,none⟩)] w fun e w'=>e=.returned (.int .i64 x)∧(∃ o',MchM w' b bv (.slice (some ⟨g,o',none⟩) n (c-1)) ov { m with inp:=l }∧(n=0∨o'=o+1))∧w.grownBy w' (some b):=by
 have hci:=h.cI
 have hfi:=h.fz 24
 have h0:=h
 have hz:(((n:Int)+1) == 0)=false:=by simp;omega
 go_enter Tryz.func261,Tryz.ntmps261
 go_wp2
 all_goals go_ret
 ·exact⟨rfl,⟨o,h0.setI (.slice (some ⟨g,o,none⟩) n 0) l,.inl (by omega)⟩,zah (Below.refl _ _)⟩
 ·exact⟨rfl,⟨o+1,h0.setI (.slice (some ⟨g,o+1,none⟩) n (c-1)) l,.inr rfl⟩,zah (Below.refl _ _)⟩
end
section
open Go.RowKit Sp Go.WideMaps Go.Maps
theorem Tryz.under81:Tryz.prog.underlying 81=some (.map 9 3):=by kernel_rfl
theorem lawS:Keyed Tryz.prog 9:=string_keyed Tryz.underlying9
theorem zsq(w:World):(zeroValue 3).run Tryz.prog w=.ok (.int .i64 0) w:=by kernel_rfl
theorem keyS(x:ByteArray)(h:x.size≤maxLen):keyOf Tryz.prog 9 (.string x)=some (.string x.data.toList):=keyOf_string_mk Tryz.underlying9 h
def zbB:List (ByteArray × Nat)→ByteArray→Option Nat
 | [],_=>none
 | p :: r,x=>if eqW p.1 x=true then some p.2 else zbB r x
abbrev zbx(E:List (ByteArray × Nat)):List ByteArray:=E.map Prod.fst
theorem zpT(E:List (ByteArray × Nat))(x:ByteArray)(h:(zbx E).any (fun y=>eqW y x)=false):zbB E x=none:=by
 induction E with
 | nil=>rfl
 | cons p r ih =>
  simp only [zbx,List.map_cons,List.any_cons,Bool.or_eq_false_iff] at h
  unfold zbB
  rw [if_neg (by rw [h.1];simp)]
  exact ih h.2
theorem zlf(E G:List (ByteArray × Nat))(x:ByteArray):zbB (E++G) x=match zbB E x with|some p=>some p|none=>zbB G x:=by
 induction E with
 | nil=>rfl
 | cons p r ih =>
  show(if eqW p.1 x=true then some p.2 else zbB (r++G) x)=match (if eqW p.1 x=true then some p.2 else zbB r x) with|some p=>some p|none=>zbB G x
  split
  ·rfl
  ·exact ih
theorem zpU(E:List (ByteArray × Nat))(x:ByteArray)(h:(zbx E).any (fun y=>eqW y x)=true):∃ p,zbB E x=some p:=by
 induction E with
 | nil=>simp at h
 | cons p r ih =>
  simp only [zbx,List.map_cons,List.any_cons,Bool.or_eq_true] at h
  unfold zbB
  by_cases e:eqW p.1 x=true
  ·exact⟨_,if_pos e⟩
  ·rw [if_neg e]
   rcases h with h|h
   ·exact absurd h e
   ·exact ih h
def MapIs(w:World)(b:Nat)(E:List (ByteArray × Nat)):Prop:=∃ D:DataW Unit,w.ownsMap Tryz.prog 9 (plainElem Tryz.prog 3) b E.length D∧IsMap D∧(∀ x:ByteArray,Maps.has D (.string x.data.toList)=(zbx E).any (fun y=>eqW y x)) ∧
 (∀(x:ByteArray) (p:Nat) (z:DataW Unit),zbB E x=some p→D.atKey (.string x.data.toList) z=.lit (.int .i64 (p:Int)))∧E.Pairwise (fun a b=>eqW a.1 b.1=false)
theorem MapIs.kept{w w':World}{b:Nat}{E:List (ByteArray × Nat)}{row:Option Nat}(h:MapIs w b E)(hg:w.grownBy w' row)(hne:some b≠row):MapIs w' b E:=by
 obtain⟨D,h1,h2⟩:=h
 exact⟨D,h1.kept hg hne,h2⟩
theorem MapIs.alloc{w:World}{b:Nat}{E:List (ByteArray × Nat)}(h:MapIs w b E)(o:Obj):MapIs (w.alloc o) b E:=h.kept (World.grownBy_alloc w o none) (by simp)
theorem MapIs.lt{w:World}{b:Nat}{E:List (ByteArray × Nat)}(h:MapIs w b E):b<w.heap.size:=by
 obtain⟨D,h1,_⟩:=h
 exact h1.lt
theorem MapIs.below{w w':World}{b:Nat}{E:List (ByteArray × Nat)}{B:Nat}(h:MapIs w b E)(hb:Below B w w')(hB:b<B):MapIs w' b E:=by
 obtain⟨D,⟨es,clock,hh,r⟩,h2⟩:=h
 exact⟨D,⟨es,clock,(hb.block b hB).trans hh,r⟩,h2⟩
theorem MapIs.made(w:World):MapIs (w.alloc (.map #[] 0)) w.heap.size []:=⟨.map [],World.ownsMap_made _ _ _ _,⟨[],rfl⟩,fun _x=>rfl,fun _x _p _z h=>(nomatch h),List.Pairwise.nil⟩
theorem zxK{w:World}{b base:Nat}{E:List (ByteArray × Nat)}{e:TypeId}{size n:Nat}{v:Value}{xs:List Value}(h:MapIs w b E)(hr:w.ownsRow base e size v n xs):some b≠v.ownBlock:=by
 obtain⟨D,⟨es,clock,hh,_⟩,_⟩:=h
 intro e1
 rcases hr.2 with ⟨hv,_⟩|⟨g,cap,cur,hv,_,hg,_⟩
 ·subst hv;simp [Value.ownBlock] at e1
 ·subst hv
  simp [Value.ownBlock] at e1
  subst e1
  rw [hh] at hg
  cases hg
theorem zea(a b:ByteArray):eqW a b=true↔a.data.toList=b.data.toList:=by
 unfold eqW
 rw [ByteArray.toList_eq,ByteArray.toList_eq,beq_iff_eq]
theorem zxL{D:DataW Unit}{names:List ByteArray}(hD:IsMap D)(h:∀ x:ByteArray,Maps.has D (.string x.data.toList)=names.any (fun y=>eqW y x))(nm:ByteArray)(d:DataW Unit):∀ x:ByteArray,Maps.has (D.put (.string nm.data.toList) d) (.string x.data.toList)=(names++[nm]).any (fun y=>eqW y x):=by
 intro x
 rw [List.any_append]
 by_cases e:x.data.toList=nm.data.toList
 ·rw [e,has_put_same hD (k:=.string nm.data.toList) trivial d]
  have:eqW nm x=true:=(zea nm x).2 e.symm
  simp [this]
 ·have hne:(Lit.string x.data.toList)≠.string nm.data.toList:=by intro e2;apply e;simpa using e2
  rw [has_put_other hne d,h x]
  have:eqW nm x=false:=by
   cases hq:eqW nm x with
   | false=>rfl
   | true=>exact absurd ((zea nm x).1 hq).symm e
  simp [this]
theorem zzu{D:DataW Unit}{E:List (ByteArray × Nat)}(hD:IsMap D)(h:∀(x:ByteArray) (p:Nat) (z:DataW Unit),zbB E x=some p→D.atKey (.string x.data.toList) z=.lit (.int .i64 (p:Int)))(nm:ByteArray)(hno:(zbx E).any (fun y=>eqW y nm)=false)(place:Nat):
  ∀(x:ByteArray) (p:Nat) (z:DataW Unit),zbB (E++[(nm,place)]) x=some p→(D.put (.string nm.data.toList) (.lit (.int .i64 (place:Int)))).atKey (.string x.data.toList) z=.lit (.int .i64 (p:Int)):=by
 intro x p z hf
 rw [zlf] at hf
 by_cases e:x.data.toList=nm.data.toList
 ·have hx:x=nm:=by
   have:x.data=nm.data:=by rw [←Array.toArray_toList (xs:=x.data),e,Array.toArray_toList]
   cases x;cases nm;simp at this;rw [this]
  subst hx
  rw [zpT E x hno] at hf
  have:eqW x x=true:=(zea x x).2 rfl
  simp only [zbB,this,if_true,Option.some.injEq] at hf
  subst hf
  exact atKey_put_same hD (k:=.string x.data.toList) trivial _ z
 ·have hne:(Lit.string x.data.toList)≠.string nm.data.toList:=by intro e2;apply e;simpa using e2
  rw [atKey_put_other hne]
  have hq:eqW nm x=false:=by
   cases hq:eqW nm x with
   | false=>rfl
   | true=>exact absurd ((zea nm x).1 hq).symm e
  cases hE:zbB E x with
  | some q=>rw [hE] at hf;simp only [Option.some.injEq] at hf;subst hf;exact h x q z hE
  | none=>rw [hE] at hf;simp [zbB,hq] at hf
theorem zvv{E:List (ByteArray × Nat)}(h:E.Pairwise (fun a b=>eqW a.1 b.1=false))(nm:ByteArray)(hno:(zbx E).any (fun y=>eqW y nm)=false)(place:Nat):(E++[(nm,place)]).Pairwise (fun a b=>eqW a.1 b.1=false):=by
 refine List.pairwise_append.2 ⟨h,by simp,fun a ha b hb=>?_⟩
 simp at hb
 subst hb
 rw [List.any_eq_false] at hno
 have:=hno a.1 (List.mem_map_of_mem ha)
 simpa using this
theorem zlg(w:World)(b:Nat)(E:List (ByteArray × Nat))(hM:MapIs w b E)(sort line:Int)(word:ByteArray)(x y z n:Int)(nm:ByteArray)(place:Nat)(hp:place≤4096)(hn:E.length≤4096)(hnm:nm.size≤1048576)(hno:(zbx E).any (fun y=>eqW y nm)=false):
  Calls Tryz.prog 131 #[.map (some b),stm sort line word x y z n nm,.int .i64 (place:Int)] w fun e w'=>e=.returned (.tuple #[])∧MapIs w' b (E++[(nm,place)])∧w.grownBy w' (some b):=by
 obtain⟨D,hown,hD,hhas,hat0,hpw⟩:=hM
 have hk:=keyS nm (by unfold maxLen;omega)
 have hf:=hhas nm
 rw [hno] at hf
 have hlt:=hown.lt
 go_enter Tryz.func131,Tryz.ntmps131
 go_wp2_with(first
  | (at_lookup;refine wpList_lookup_own_ok_int _ rfl _ _ 81 rfl 9 3 .i64 lawS Tryz.under81 Tryz.underlying3 (zsq _) b E.length D rfl (hown.alloc _) _ _ rfl hk ?_;intro c hat hwc)
  | (at_mapUpdate;refine wpList_mapUpdate_own _ rfl _ _ _ 81 rfl 9 3 lawS Tryz.under81 _ b E.length D rfl (hown.alloc _) (by unfold maxLen;omega) _ _ _ rfl rfl hk _ [] (plainElem_int Tryz.underlying3 (WalkArith.wf_i64 (by omega))) ?_;intro w1 hown1 hgrow1))
 go_end0
 refine⟨rfl,⟨_,by simpa using hown1,hD.put _ _,by simpa using zxL hD hhas nm _,zzu hD hat0 nm hno place,zvv hpw nm hno place⟩,(World.grownBy_alloc w _ _).trans hgrow1⟩
theorem zlh(w:World)(b:Nat)(E:List (ByteArray × Nat))(hM:MapIs w b E)(sort line:Int)(word:ByteArray)(x y z n:Int)(nm:ByteArray)(place:Int)(hnm:nm.size≤1048576)(hno:(zbx E).any (fun y=>eqW y nm)=true):
  Calls Tryz.prog 131 #[.map (some b),stm sort line word x y z n nm,.int .i64 place] w fun e w'=>e=zak 3 line∧Below w.heap.size w w':=by
 obtain⟨D,hown,hD,hhas,hat0,hpw⟩:=hM
 have hk:=keyS nm (by unfold maxLen;omega)
 have hf:=hhas nm
 rw [hno] at hf
 have hlt:=hown.lt
 go_enter Tryz.func131,Tryz.ntmps131
 go_wp2_with(first
  | (at_lookup;refine wpList_lookup_own_ok_int _ rfl _ _ 81 rfl 9 3 .i64 lawS Tryz.under81 Tryz.underlying3 (zsq _) b E.length D rfl (hown.alloc _) _ _ rfl hk ?_;intro c hat hwc)
  | (go_at_call 79;refine(zay _ _ _).mono ?_;rintro e wx ⟨rfl,hww⟩;subst hww))
 exact⟨rfl,rfl,(Below.refl _ _).alloc (Nat.le_refl _) _⟩
theorem zj4(w:World)(b:Nat)(E:List (ByteArray × Nat))(hM:MapIs w b E)(sort line:Int)(word:ByteArray)(x y z n:Int)(nm:ByteArray)(hnm:nm.size≤1048576)(hno:(zbx E).any (fun y=>eqW y nm)=true):
  Calls Tryz.prog 103 #[.map (some b),stm sort line word x y z n nm] w fun e w'=>e=.returned (.tuple #[])∧Below w.heap.size w w':=by
 obtain⟨D,hown,hD,hhas,hat0,hpw⟩:=hM
 have hk:=keyS nm (by unfold maxLen;omega)
 have hf:=hhas nm
 rw [hno] at hf
 have hlt:=hown.lt
 go_enter Tryz.func103,Tryz.ntmps103
 go_wp2_with(first
  | (at_lookup;refine wpList_lookup_own_ok_int _ rfl _ _ 81 rfl 9 3 .i64 lawS Tryz.under81 Tryz.underlying3 (zsq _) b E.length D rfl (hown.alloc _) _ _ rfl hk ?_;intro c hat hwc))
 go_end0
 exact⟨rfl,(Below.refl _ _).alloc (Nat.le_refl _) _⟩
theorem zli(w:World)(b:Nat)(E:List (ByteArray × Nat))(hM:MapIs w b E)(sort line:Int)(word:ByteArray)(x y z n:Int)(nm:ByteArray)(hnm:nm.size≤1048576)(hno:(zbx E).any (fun y=>eqW y nm)=false):
  Calls Tryz.prog 103 #[.map (some b),stm sort line word x y z n nm] w fun e w'=>e=zak 4 line∧Below w.heap.size w w':=by
 obtain⟨D,hown,hD,hhas,hat0,hpw⟩:=hM
 have hk:=keyS nm (by unfold maxLen;omega)
 have hf:=hhas nm
 rw [hno] at hf
 have hlt:=hown.lt
 go_enter Tryz.func103,Tryz.ntmps103
 go_wp2_with(first
  | (at_lookup;refine wpList_lookup_own_ok_int _ rfl _ _ 81 rfl 9 3 .i64 lawS Tryz.under81 Tryz.underlying3 (zsq _) b E.length D rfl (hown.alloc _) _ _ rfl hk ?_;intro c hat hwc)
  | (go_at_call 79;refine(zay _ _ _).mono ?_;rintro e wx ⟨rfl,hww⟩;subst hww))
 exact⟨rfl,rfl,(Below.refl _ _).alloc (Nat.le_refl _) _⟩
end
section
open Go.RowKit Sp
theorem MchM.alloc{w:World}{b:Nat}{bv iv ov:Value}{m:Mc}(h:MchM w b bv iv ov m)(x:Obj):MchM (w.alloc x) b bv iv ov m:=h.of_block (Below.heap_alloc _ _ _ h.lt)
theorem zaG{w:World}{b o n:Nat}{x:Obj}{v:Value}:w.grownBy (((w.alloc x).drewN n).setCell ⟨b,o,none⟩ v) (some b) :=
 zai (World.grownBy_alloc w x _) (zb4 (n:=n) (zah (Below.refl _ _)))
theorem zzk(w:World)(b:Nat)(bv iv ov:Value)(m:Mc)(r:Nat)(hr:r<8)(k:Int)(h:MchM w b bv iv ov m)(h0:0≤m.steps)(h1:m.steps≤100000)(ha:0≤m.at')(hb:m.at'≤100000):
  Calls Tryz.prog 223 #[.agg #[.int .i64 (r:Int),.int .i64 k],.pointer (some ⟨b,0,none⟩)] w fun e w'=>e=.returned (.tuple #[])∧MchM w' b bv iv ov (exec (.set r k) (m.at'+1) m)∧w.grownBy w' (some b):=by
 have hl:=h.lt
 have h2:=h.alloc (.cells #[.int .i64 (r:Int),.int .i64 k] 167)
 have hcr:=h2.cR r hr
 have hr0:(0:Int)≤(r:Int):=by omega
 have hr8:(r:Int)<8:=by omega
 have hx:=fun n=>(h2.drewN n).setR r hr k
 have hfz:=h2.fz r
 have hne4:¬w.heap.size=b:=by omega
 have hne5:¬b=w.heap.size:=by omega
 go_enter Tryz.func223,Tryz.ntmps223
 go_wp2_with fail
 refine zam 8 (by kernel_rfl) (by kernel_rfl) ?_
 simp only [List.take_succ_cons,List.take_zero,List.drop_succ_cons,List.drop_zero]
 repeat(go_big_quiet_step (fail))
 refine wpQuiet_nil ?_
 rintro _ ⟨nr,rfl⟩
 go_wp2_with(first|(go_at_call 225;refine(zbA _ b bv iv ov _ (hx nr) h0 h1 ha hb).mono ?_;rintro e w2 ⟨rfl,hM,hg⟩))
 go_end0
 exact⟨rfl,hM,zai zaG hg⟩
theorem zzl(w:World)(b:Nat)(bv iv ov:Value)(m:Mc)(r s:Nat)(hr:r<8)(hs:s<8)(h:MchM w b bv iv ov m)(h0:0≤m.steps)(h1:m.steps≤100000)(ha:0≤m.at')(hb:m.at'≤100000):
  Calls Tryz.prog 230 #[.agg #[.int .i64 (r:Int),.int .i64 (s:Int)],.pointer (some ⟨b,0,none⟩)] w fun e w'=>e=.returned (.tuple #[])∧MchM w' b bv iv ov (exec (.mov r s) (m.at'+1) m)∧w.grownBy w' (some b):=by
 have hl:=h.lt
 have h2:=h.alloc (.cells #[.int .i64 (r:Int),.int .i64 (s:Int)] 169)
 have hcr:=h2.cR r hr
 have hr0:(0:Int)≤(r:Int):=by omega
 have hr8:(r:Int)<8:=by omega
 have hcs:=h2.cR s hs
 have hs0:(0:Int)≤(s:Int):=by omega
 have hs8:(s:Int)<8:=by omega
 have hx:=fun n=>(h2.drewN n).setR r hr (m.regs s)
 have hfz:=h2.fz r
 have hne4:¬w.heap.size=b:=by omega
 have hne5:¬b=w.heap.size:=by omega
 go_enter Tryz.func230,Tryz.ntmps230
 go_wp2_with fail
 refine zam 13 (by kernel_rfl) (by kernel_rfl) ?_
 simp only [List.take_succ_cons,List.take_zero,List.drop_succ_cons,List.drop_zero]
 repeat(go_big_quiet_step (fail))
 refine wpQuiet_nil ?_
 rintro _ ⟨nr,rfl⟩
 go_wp2_with(first|(go_at_call 225;refine(zbA _ b bv iv ov _ (hx nr) h0 h1 ha hb).mono ?_;rintro e w2 ⟨rfl,hM,hg⟩))
 go_end0
 exact⟨rfl,hM,zai zaG hg⟩
theorem zzm(w:World)(b:Nat)(bv iv ov:Value)(m:Mc)(r s t:Nat)(hr:r<8)(hs:s<8)(ht:t<8)(h:MchM w b bv iv ov m)(h0:0≤m.steps)(h1:m.steps≤100000)(ha:0≤m.at')(hb:m.at'≤100000):
  Calls Tryz.prog 232 #[.agg #[.int .i64 (r:Int),.int .i64 (s:Int),.int .i64 (t:Int)],.pointer (some ⟨b,0,none⟩)] w fun e w'=>e=.returned (.tuple #[])∧MchM w' b bv iv ov (exec (.alu 0 r s t) (m.at'+1) m)∧w.grownBy w' (some b):=by
 have hl:=h.lt
 have h2:=h.alloc (.cells #[.int .i64 (r:Int),.int .i64 (s:Int),.int .i64 (t:Int)] 171)
 have hcr:=h2.cR r hr
 have hr0:(0:Int)≤(r:Int):=by omega
 have hr8:(r:Int)<8:=by omega
 have hcs:=h2.cR s hs
 have hs0:(0:Int)≤(s:Int):=by omega
 have hs8:(s:Int)<8:=by omega
 have hct:=h2.cR t ht
 have ht0:(0:Int)≤(t:Int):=by omega
 have ht8:(t:Int)<8:=by omega
 have hx:=fun n=>(h2.drewN n).setR r hr (zc1 0 (m.regs s) (m.regs t))
 have hfz:=h2.fz r
 have hne4:¬w.heap.size=b:=by omega
 have hne5:¬b=w.heap.size:=by omega
 go_enter Tryz.func232,Tryz.ntmps232
 go_wp2_with fail
 refine zam 21 (by kernel_rfl) (by kernel_rfl) ?_
 simp only [List.take_succ_cons,List.take_zero,List.drop_succ_cons,List.drop_zero]
 repeat(go_big_quiet_step (fail))
 refine wpQuiet_nil ?_
 rintro _ ⟨nr,rfl⟩
 rw [zx5]
 go_wp2_with(first|(go_at_call 225;refine(zbA _ b bv iv ov _ (hx nr) h0 h1 ha hb).mono ?_;rintro e w2 ⟨rfl,hM,hg⟩))
 go_end0
 exact⟨rfl,hM,zai zaG hg⟩
theorem zzn(w:World)(b:Nat)(bv iv ov:Value)(m:Mc)(r s t:Nat)(hr:r<8)(hs:s<8)(ht:t<8)(h:MchM w b bv iv ov m)(h0:0≤m.steps)(h1:m.steps≤100000)(ha:0≤m.at')(hb:m.at'≤100000):
  Calls Tryz.prog 239 #[.agg #[.int .i64 (r:Int),.int .i64 (s:Int),.int .i64 (t:Int)],.pointer (some ⟨b,0,none⟩)] w fun e w'=>e=.returned (.tuple #[])∧MchM w' b bv iv ov (exec (.alu 1 r s t) (m.at'+1) m)∧w.grownBy w' (some b):=by
 have hl:=h.lt
 have h2:=h.alloc (.cells #[.int .i64 (r:Int),.int .i64 (s:Int),.int .i64 (t:Int)] 172)
 have hcr:=h2.cR r hr
 have hr0:(0:Int)≤(r:Int):=by omega
 have hr8:(r:Int)<8:=by omega
 have hcs:=h2.cR s hs
 have hs0:(0:Int)≤(s:Int):=by omega
 have hs8:(s:Int)<8:=by omega
 have hct:=h2.cR t ht
 have ht0:(0:Int)≤(t:Int):=by omega
 have ht8:(t:Int)<8:=by omega
 have hx:=fun n=>(h2.drewN n).setR r hr (zc1 1 (m.regs s) (m.regs t))
 have hfz:=h2.fz r
 have hne4:¬w.heap.size=b:=by omega
 have hne5:¬b=w.heap.size:=by omega
 go_enter Tryz.func239,Tryz.ntmps239
 go_wp2_with fail
 refine zam 21 (by kernel_rfl) (by kernel_rfl) ?_
 simp only [List.take_succ_cons,List.take_zero,List.drop_succ_cons,List.drop_zero]
 repeat(go_big_quiet_step (fail))
 refine wpQuiet_nil ?_
 rintro _ ⟨nr,rfl⟩
 rw [zx6]
 go_wp2_with(first|(go_at_call 225;refine(zbA _ b bv iv ov _ (hx nr) h0 h1 ha hb).mono ?_;rintro e w2 ⟨rfl,hM,hg⟩))
 go_end0
 exact⟨rfl,hM,zai zaG hg⟩
theorem zzo(w:World)(b:Nat)(bv iv ov:Value)(m:Mc)(r s t:Nat)(hr:r<8)(hs:s<8)(ht:t<8)(h:MchM w b bv iv ov m)(h0:0≤m.steps)(h1:m.steps≤100000)(ha:0≤m.at')(hb:m.at'≤100000):
  Calls Tryz.prog 243 #[.agg #[.int .i64 (r:Int),.int .i64 (s:Int),.int .i64 (t:Int)],.pointer (some ⟨b,0,none⟩)] w fun e w'=>e=.returned (.tuple #[])∧MchM w' b bv iv ov (exec (.alu 2 r s t) (m.at'+1) m)∧w.grownBy w' (some b):=by
 have hl:=h.lt
 have h2:=h.alloc (.cells #[.int .i64 (r:Int),.int .i64 (s:Int),.int .i64 (t:Int)] 173)
 have hcr:=h2.cR r hr
 have hr0:(0:Int)≤(r:Int):=by omega
 have hr8:(r:Int)<8:=by omega
 have hcs:=h2.cR s hs
 have hs0:(0:Int)≤(s:Int):=by omega
 have hs8:(s:Int)<8:=by omega
 have hct:=h2.cR t ht
 have ht0:(0:Int)≤(t:Int):=by omega
 have ht8:(t:Int)<8:=by omega
 have hx:=fun n=>(h2.drewN n).setR r hr (zc1 2 (m.regs s) (m.regs t))
 have hfz:=h2.fz r
 have hne4:¬w.heap.size=b:=by omega
 have hne5:¬b=w.heap.size:=by omega
 go_enter Tryz.func243,Tryz.ntmps243
 go_wp2_with fail
 refine zam 21 (by kernel_rfl) (by kernel_rfl) ?_
 simp only [List.take_succ_cons,List.take_zero,List.drop_succ_cons,List.drop_zero]
 repeat(go_big_quiet_step (fail))
 refine wpQuiet_nil ?_
 rintro _ ⟨nr,rfl⟩
 rw [zx7]
 go_wp2_with(first|(go_at_call 225;refine(zbA _ b bv iv ov _ (hx nr) h0 h1 ha hb).mono ?_;rintro e w2 ⟨rfl,hM,hg⟩))
 go_end0
 exact⟨rfl,hM,zai zaG hg⟩
theorem zzp(w:World)(b:Nat)(bv iv ov:Value)(m:Mc)(r:Nat)(hr:r<8)(k:Int)(h:MchM w b bv iv ov m)(h0:0≤m.steps)(h1:m.steps≤100000)(ha:0≤m.at')(hb:m.at'≤100000):
  Calls Tryz.prog 249 #[.agg #[.int .i64 (r:Int),.int .i64 k],.pointer (some ⟨b,0,none⟩)] w fun e w'=>e=.returned (.tuple #[])∧MchM w' b bv iv ov (exec (.inc r k) (m.at'+1) m)∧w.grownBy w' (some b):=by
 have hl:=h.lt
 have h2:=h.alloc (.cells #[.int .i64 (r:Int),.int .i64 k] 174)
 have hcr:=h2.cR r hr
 have hr0:(0:Int)≤(r:Int):=by omega
 have hr8:(r:Int)<8:=by omega
 have hx:=fun n=>(h2.drewN n).setR r hr (w64 (m.regs r+k))
 have hfz:=h2.fz r
 have hne4:¬w.heap.size=b:=by omega
 have hne5:¬b=w.heap.size:=by omega
 go_enter Tryz.func249,Tryz.ntmps249
 go_wp2_with fail
 refine zam 13 (by kernel_rfl) (by kernel_rfl) ?_
 simp only [List.take_succ_cons,List.take_zero,List.drop_succ_cons,List.drop_zero]
 repeat(go_big_quiet_step (fail))
 refine wpQuiet_nil ?_
 rintro _ ⟨nr,rfl⟩
 rw [zc2]
 go_wp2_with(first|(go_at_call 225;refine(zbA _ b bv iv ov _ (hx nr) h0 h1 ha hb).mono ?_;rintro e w2 ⟨rfl,hM,hg⟩))
 go_end0
 exact⟨rfl,hM,zai zaG hg⟩
theorem zhV(w:World)(b:Nat)(bv iv ov:Value)(m:Mc)(to:Int)(h:MchM w b bv iv ov m)(h0:0≤m.steps)(h1:m.steps≤100000):
  Calls Tryz.prog 269 #[.pointer (some ⟨b,0,none⟩),.bool true,.int .i64 to] w fun e w'=>e=.returned (.tuple #[])∧MchM w' b bv iv ov (m.goes to)∧w.grownBy w' (some b):=by
 go_enter Tryz.func269,Tryz.ntmps269
 go_wp2_with(first|(go_at_call 228;refine(zev w b bv iv ov m to h h0 h1).mono ?_;rintro e w2 ⟨rfl,hM,hg⟩))
 go_end0
 exact⟨rfl,hM,hg⟩
theorem zhb(w:World)(b:Nat)(bv iv ov:Value)(m:Mc)(to:Int)(h:MchM w b bv iv ov m)(h0:0≤m.steps)(h1:m.steps≤100000)(ha:0≤m.at')(hb:m.at'≤100000):
  Calls Tryz.prog 269 #[.pointer (some ⟨b,0,none⟩),.bool false,.int .i64 to] w fun e w'=>e=.returned (.tuple #[])∧MchM w' b bv iv ov (m.goes (m.at'+1))∧w.grownBy w' (some b):=by
 go_enter Tryz.func269,Tryz.ntmps269
 go_wp2_with(first|(go_at_call 225;refine(zbA w b bv iv ov m h h0 h1 ha hb).mono ?_;rintro e w2 ⟨rfl,hM,hg⟩))
 go_end0
 exact⟨rfl,hM,hg⟩
theorem zx8(w:World)(b:Nat)(bv iv ov:Value)(m:Mc)(to:Int)(h:MchM w b bv iv ov m)(h0:0≤m.steps)(h1:m.steps≤100000):
  Calls Tryz.prog 265 #[.agg #[.int .i64 to],.pointer (some ⟨b,0,none⟩)] w fun e w'=>e=.returned (.tuple #[])∧MchM w' b bv iv ov (exec (.jump to) (m.at'+1) m)∧w.grownBy w' (some b):=by
 have h2:=h.alloc (.cells #[.int .i64 to] 185)
 go_enter Tryz.func265,Tryz.ntmps265
 go_wp2_with(first|(go_at_call 228;refine(zev _ b bv iv ov m to h2 h0 h1).mono ?_;rintro e w2 ⟨rfl,hM,hg⟩))
 go_end0
 exact⟨rfl,hM,zai (World.grownBy_alloc w _ _) hg⟩
theorem zx9(w:World)(b:Nat)(bv iv ov:Value)(m:Mc)(r s:Nat)(hr:r<8)(hs:s<8)(to:Int)(h:MchM w b bv iv ov m)(h0:0≤m.steps)(h1:m.steps≤100000)(ha:0≤m.at')(hb:m.at'≤100000):
  Calls Tryz.prog 267 #[.agg #[.int .i64 (r:Int),.int .i64 (s:Int),.int .i64 to],.pointer (some ⟨b,0,none⟩)] w fun e w'=>e=.returned (.tuple #[])∧MchM w' b bv iv ov (exec (.less r s to) (m.at'+1) m)∧w.grownBy w' (some b):=by
 have hl:=h.lt
 have h2:=h.alloc (.cells #[.int .i64 (r:Int),.int .i64 (s:Int),.int .i64 to] 187)
 have hcr:=h2.cR r hr
 have hr0:(0:Int)≤(r:Int):=by omega
 have hr8:(r:Int)<8:=by omega
 have hcs:=h2.cR s hs
 have hs0:(0:Int)≤(s:Int):=by omega
 have hs8:(s:Int)<8:=by omega
 have hne4:¬w.heap.size=b:=by omega
 have hne5:¬b=w.heap.size:=by omega
 show Calls _ _ _ _ fun e w'=>_∧MchM w' b bv iv ov (m.goes (if m.regs r<m.regs s then to else m.at'+1))∧_
 by_cases ht:m.regs r<m.regs s
 ·rw [if_pos ht]
  have hd:m.regs r<m.regs s:=ht
  go_enter Tryz.func267,Tryz.ntmps267
  go_wp2_with fail
  refine zam 18 (by kernel_rfl) (by kernel_rfl) ?_
  simp only [List.take_succ_cons,List.take_zero,List.drop_succ_cons,List.drop_zero]
  repeat(go_big_quiet_step (fail))
  refine wpQuiet_nil ?_
  rintro _ ⟨nr,rfl⟩
  go_wp2_with(first|(go_at_call 269;refine(zhV _ b bv iv ov m to (h2.drewN nr) h0 h1).mono ?_;rintro e w2 ⟨rfl,hM,hg⟩))
  go_end0
  exact⟨rfl,hM,zai (World.grownBy_alloc w _ _) (zb4 hg)⟩
 ·rw [if_neg ht]
  have hd:decide (m.regs r<m.regs s)=false:=by simpa using ht
  go_enter Tryz.func267,Tryz.ntmps267
  go_wp2_with fail
  refine zam 18 (by kernel_rfl) (by kernel_rfl) ?_
  simp only [List.take_succ_cons,List.take_zero,List.drop_succ_cons,List.drop_zero]
  repeat(go_big_quiet_step (fail))
  refine wpQuiet_nil ?_
  rintro _ ⟨nr,rfl⟩
  go_wp2_with(first|(go_at_call 269;refine(zhb _ b bv iv ov m to (h2.drewN nr) h0 h1 ha hb).mono ?_;rintro e w2 ⟨rfl,hM,hg⟩))
  go_end0
  exact⟨rfl,hM,zai (World.grownBy_alloc w _ _) (zb4 hg)⟩
theorem zxA(w:World)(b:Nat)(bv iv ov:Value)(m:Mc)(r s:Nat)(hr:r<8)(hs:s<8)(to:Int)(h:MchM w b bv iv ov m)(h0:0≤m.steps)(h1:m.steps≤100000)(ha:0≤m.at')(hb:m.at'≤100000):
  Calls Tryz.prog 274 #[.agg #[.int .i64 (r:Int),.int .i64 (s:Int),.int .i64 to],.pointer (some ⟨b,0,none⟩)] w fun e w'=>e=.returned (.tuple #[])∧MchM w' b bv iv ov (exec (.same r s to) (m.at'+1) m)∧w.grownBy w' (some b):=by
 have hl:=h.lt
 have h2:=h.alloc (.cells #[.int .i64 (r:Int),.int .i64 (s:Int),.int .i64 to] 188)
 have hcr:=h2.cR r hr
 have hr0:(0:Int)≤(r:Int):=by omega
 have hr8:(r:Int)<8:=by omega
 have hcs:=h2.cR s hs
 have hs0:(0:Int)≤(s:Int):=by omega
 have hs8:(s:Int)<8:=by omega
 have hne4:¬w.heap.size=b:=by omega
 have hne5:¬b=w.heap.size:=by omega
 show Calls _ _ _ _ fun e w'=>_∧MchM w' b bv iv ov (m.goes (if m.regs r=m.regs s then to else m.at'+1))∧_
 by_cases ht:m.regs r=m.regs s
 ·rw [if_pos ht]
  have hd:(m.regs r == m.regs s)=true:=by simpa using ht
  go_enter Tryz.func274,Tryz.ntmps274
  go_wp2_with fail
  refine zam 18 (by kernel_rfl) (by kernel_rfl) ?_
  simp only [List.take_succ_cons,List.take_zero,List.drop_succ_cons,List.drop_zero]
  repeat(go_big_quiet_step (fail))
  refine wpQuiet_nil ?_
  rintro _ ⟨nr,rfl⟩
  go_wp2_with(first|(go_at_call 269;refine(zhV _ b bv iv ov m to (h2.drewN nr) h0 h1).mono ?_;rintro e w2 ⟨rfl,hM,hg⟩))
  go_end0
  exact⟨rfl,hM,zai (World.grownBy_alloc w _ _) (zb4 hg)⟩
 ·rw [if_neg ht]
  have hd:(m.regs r == m.regs s)=false:=by simpa using ht
  go_enter Tryz.func274,Tryz.ntmps274
  go_wp2_with fail
  refine zam 18 (by kernel_rfl) (by kernel_rfl) ?_
  simp only [List.take_succ_cons,List.take_zero,List.drop_succ_cons,List.drop_zero]
  repeat(go_big_quiet_step (fail))
  refine wpQuiet_nil ?_
  rintro _ ⟨nr,rfl⟩
  go_wp2_with(first|(go_at_call 269;refine(zhb _ b bv iv ov m to (h2.drewN nr) h0 h1 ha hb).mono ?_;rintro e w2 ⟨rfl,hM,hg⟩))
  go_end0
  exact⟨rfl,hM,zai (World.grownBy_alloc w _ _) (zb4 hg)⟩
theorem zxB(w:World)(b:Nat)(bv iv ov:Value)(m:Mc)(h:MchM w b bv iv ov m)(h0:0≤m.steps)(h1:m.steps≤100000):
  Calls Tryz.prog 288 #[.agg #[],.pointer (some ⟨b,0,none⟩)] w fun e w'=>e=.returned (.tuple #[])∧MchM w' b bv iv ov ({ m with steps:=m.steps+1,fin:=1 })∧w.grownBy w' (some b):=by
 have h2:=h.alloc (.cells #[] 193)
 go_enter Tryz.func288,Tryz.ntmps288
 go_wp2_with(first|(go_at_call 290;refine(zrZ _ b bv iv ov m h2 h0 h1).mono ?_;rintro e w2 ⟨rfl,hM,hg⟩))
 go_end0
 exact⟨rfl,hM,zai (World.grownBy_alloc w _ _) hg⟩
theorem zmY(w:World)(b:Nat)(bv iv ov:Value)(m:Mc)(r s:Nat)(_hr:r<8)(hs:s<8)(h:MchM w b bv iv ov m)(hn:m.regs s<0∨15<m.regs s):
  Calls Tryz.prog 251 #[.agg #[.int .i64 (r:Int),.int .i64 (s:Int)],.pointer (some ⟨b,0,none⟩)] w fun e w'=>e=.returned (.tuple #[])∧MchM w' b bv iv ov (exec (.load r s) (m.at'+1) m)∧w.grownBy w' (some b):=by
 have hl:=h.lt
 have h2:=h.alloc (.cells #[.int .i64 (r:Int),.int .i64 (s:Int)] 176)
 have hcs:=h2.cR s hs
 have hs0:(0:Int)≤(s:Int):=by omega
 have hs8:(s:Int)<8:=by omega
 have hne4:¬w.heap.size=b:=by omega
 have hne5:¬b=w.heap.size:=by omega
 have e1:exec (.load r s) (m.at'+1) m={ m with fin:=3 }:=if_pos hn
 rw [e1]
 go_enter Tryz.func251,Tryz.ntmps251
 go_wp2_with fail
 refine zam 8 (by kernel_rfl) (by kernel_rfl) ?_
 simp only [List.take_succ_cons,List.take_zero,List.drop_succ_cons,List.drop_zero]
 repeat(go_big_quiet_step (fail))
 refine wpQuiet_nil ?_
 rintro _ ⟨nr,rfl⟩
 go_wp2_with(first|(go_at_call 253;refine(zkX _ b bv iv ov m _ (h2.drewN nr) hn).mono ?_;rintro e w2 ⟨rfl,hM,hg⟩))
 go_end0
 exact⟨rfl,hM,zai (World.grownBy_alloc w _ _) (zb4 hg)⟩
theorem zpO(w:World)(b:Nat)(bv iv ov:Value)(m:Mc)(r s n0:Nat)(hr:r<8)(hs:s<8)(hn16:n0<16)(hn:m.regs s=(n0:Int))(h:MchM w b bv iv ov m)(h0:0≤m.steps)(h1:m.steps≤100000)(ha:0≤m.at')(hb:m.at'≤100000):
  Calls Tryz.prog 251 #[.agg #[.int .i64 (r:Int),.int .i64 (s:Int)],.pointer (some ⟨b,0,none⟩)] w fun e w'=>e=.returned (.tuple #[])∧MchM w' b bv iv ov (exec (.load r s) (m.at'+1) m)∧w.grownBy w' (some b):=by
 have hl:=h.lt
 have h2:=h.alloc (.cells #[.int .i64 (r:Int),.int .i64 (s:Int)] 176)
 have hcr:=h2.cR r hr
 have hr0:(0:Int)≤(r:Int):=by omega
 have hr8:(r:Int)<8:=by omega
 have hcs:=h2.cR s hs
 have hs0:(0:Int)≤(s:Int):=by omega
 have hs8:(s:Int)<8:=by omega
 have hne4:¬w.heap.size=b:=by omega
 have hne5:¬b=w.heap.size:=by omega
 have hcn:=h2.cC n0 hn16
 have hfn:=h2.fz (8+n0)
 have hfr:=h2.fz r
 have e1:exec (.load r s) (m.at'+1) m={ m with regs:=upd m.regs r (m.cells n0) }.goes (m.at'+1):=by
  show(if _ then _ else _)=_
  rw [if_neg (by omega),hn];rfl
 rw [e1]
 have hx:=fun n=>(h2.drewN n).setR r hr (m.cells n0)
 have hcall:=fun n=>zoC ((w.alloc (.cells #[.int .i64 (r:Int),.int .i64 (s:Int)] 176)).drewN n) b n0 bv iv ov m (h2.drewN n) hn16
 rw [hn] at hcs
 go_enter Tryz.func251,Tryz.ntmps251
 go_wp2_with fail
 go_quiet(first|(go_at_call 253;exact Calls.quiet_of_same (hcall _)))
 go_wp2_with fail
 refine zam 9 (by kernel_rfl) (by kernel_rfl) ?_
 simp only [List.take_succ_cons,List.take_zero,List.drop_succ_cons,List.drop_zero]
 repeat(go_big_quiet_step (fail))
 refine wpQuiet_nil ?_
 rintro _ ⟨nr,rfl⟩
 rw [World.drewN_drewN]
 go_wp2_with(first|(go_at_call 225;refine(zbA _ b bv iv ov _ (hx (nq+nr)) h0 h1 ha hb).mono ?_;rintro e w2 ⟨rfl,hM,hg⟩))
 go_end0
 exact⟨rfl,hM,zai zaG hg⟩
theorem zkY(w:World)(b:Nat)(bv iv ov:Value)(m:Mc)(r s:Nat)(hr:r<8)(_hs:s<8)(h:MchM w b bv iv ov m)(hn:m.regs r<0∨15<m.regs r):
  Calls Tryz.prog 256 #[.agg #[.int .i64 (r:Int),.int .i64 (s:Int)],.pointer (some ⟨b,0,none⟩)] w fun e w'=>e=.returned (.tuple #[])∧MchM w' b bv iv ov (exec (.store r s) (m.at'+1) m)∧w.grownBy w' (some b):=by
 have hl:=h.lt
 have h2:=h.alloc (.cells #[.int .i64 (r:Int),.int .i64 (s:Int)] 178)
 have hcr:=h2.cR r hr
 have hr0:(0:Int)≤(r:Int):=by omega
 have hr8:(r:Int)<8:=by omega
 have hne4:¬w.heap.size=b:=by omega
 have hne5:¬b=w.heap.size:=by omega
 have e1:exec (.store r s) (m.at'+1) m={ m with fin:=3 }:=if_pos hn
 rw [e1]
 go_enter Tryz.func256,Tryz.ntmps256
 go_wp2_with fail
 refine zam 8 (by kernel_rfl) (by kernel_rfl) ?_
 simp only [List.take_succ_cons,List.take_zero,List.drop_succ_cons,List.drop_zero]
 repeat(go_big_quiet_step (fail))
 refine wpQuiet_nil ?_
 rintro _ ⟨nr,rfl⟩
 go_wp2_with(first|(go_at_call 253;refine(zkX _ b bv iv ov m _ (h2.drewN nr) hn).mono ?_;rintro e w2 ⟨rfl,hM,hg⟩))
 go_end0
 exact⟨rfl,hM,zai (World.grownBy_alloc w _ _) (zb4 hg)⟩
theorem zmZ(w:World)(b:Nat)(bv iv ov:Value)(m:Mc)(r s n0:Nat)(hr:r<8)(hs:s<8)(hn16:n0<16)(hn:m.regs r=(n0:Int))(h:MchM w b bv iv ov m)(h0:0≤m.steps)(h1:m.steps≤100000)(ha:0≤m.at')(hb:m.at'≤100000):
  Calls Tryz.prog 256 #[.agg #[.int .i64 (r:Int),.int .i64 (s:Int)],.pointer (some ⟨b,0,none⟩)] w fun e w'=>e=.returned (.tuple #[])∧MchM w' b bv iv ov (exec (.store r s) (m.at'+1) m)∧w.grownBy w' (some b):=by
 have hl:=h.lt
 have h2:=h.alloc (.cells #[.int .i64 (r:Int),.int .i64 (s:Int)] 178)
 have hcr:=h2.cR r hr
 have hr0:(0:Int)≤(r:Int):=by omega
 have hr8:(r:Int)<8:=by omega
 have hcs:=h2.cR s hs
 have hs0:(0:Int)≤(s:Int):=by omega
 have hs8:(s:Int)<8:=by omega
 have hne4:¬w.heap.size=b:=by omega
 have hne5:¬b=w.heap.size:=by omega
 have hcn:=h2.cC n0 hn16
 have hfn:=h2.fz (8+n0)
 have hfr:=h2.fz r
 have e1:exec (.store r s) (m.at'+1) m={ m with cells:=upd m.cells n0 (m.regs s) }.goes (m.at'+1):=by
  show(if _ then _ else _)=_
  rw [if_neg (by omega),hn];rfl
 rw [e1]
 have hx:=fun n=>(h2.drewN n).setC n0 hn16 (m.regs s)
 have hcall:=fun n=>zoC ((w.alloc (.cells #[.int .i64 (r:Int),.int .i64 (s:Int)] 178)).drewN n) b n0 bv iv ov m (h2.drewN n) hn16
 rw [hn] at hcr
 go_enter Tryz.func256,Tryz.ntmps256
 go_wp2_with fail
 go_quiet(first|(go_at_call 253;exact Calls.quiet_of_same (hcall _)))
 go_wp2_with fail
 refine zam 9 (by kernel_rfl) (by kernel_rfl) ?_
 simp only [List.take_succ_cons,List.take_zero,List.drop_succ_cons,List.drop_zero]
 repeat(go_big_quiet_step (fail))
 refine wpQuiet_nil ?_
 rintro _ ⟨nr,rfl⟩
 rw [World.drewN_drewN]
 go_wp2_with(first|(go_at_call 225;refine(zbA _ b bv iv ov _ (hx (nq+nr)) h0 h1 ha hb).mono ?_;rintro e w2 ⟨rfl,hM,hg⟩))
 go_end0
 exact⟨rfl,hM,zai zaG hg⟩
end
end Go.Proofs.YtfpgjkbjbbgciaaGreatDoor
