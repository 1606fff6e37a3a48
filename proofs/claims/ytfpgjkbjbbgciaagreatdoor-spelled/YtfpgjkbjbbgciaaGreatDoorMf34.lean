import Derived.Test.YtfpgjkbjbbgciaaGreatDoorMf24
import Derived.Test.YtfpgjkbjbbgciaaGreatDoorMf33
set_option maxRecDepth 100000
set_option maxHeartbeats 8000000
namespace Go.Proofs.YtfpgjkbjbbgciaaGreatDoor
open Go.RowKit Sp
theorem zjK {P : Program} {o : Oper} {a : Act} {C : World → Prop} {K : Act → Prop} (t : TypeId) (parts : Array (Nat × Operand)) (ho : o.op = .build t parts) (cells : Array Value) (vs : List (Nat × Value)) (hv : (parts.map fun (i,x) => (i,a.eval x)) = vs.toArray) (hb : P.built t vs = some cells)
  (h : K (a.put o.dst (.agg cells))) : o.quiet P a C K:=by
 refine ⟨_,fun w _ => ?_,h⟩
 unfold Oper.quietAt execOp
 simp only [ho,hv,Sem.run_bind,run_build w t _ cells hb,Sem.run_pure,Result.andThen_ok]
 exact ⟨rfl,rfl⟩
theorem zjL (s f p e : Int) (ao : Option Addr) (n c : Nat) (x0 x1 x2 x3 x4 x5 x6 x7 y0 y1 y2 y3 y4 y5 y6 y7 y8 y9 y10 y11 y12 y13 y14 y15 : Value) :
  Tryz.prog.built 34 [(0,.int .i64 s),(1,.agg #[x0,x1,x2,x3,x4,x5,x6,x7]),(2,.agg #[y0,y1,y2,y3,y4,y5,y6,y7,y8,y9,y10,y11,y12,y13,y14,y15]),(3,.slice ao n c),(4,.int .i64 f),(5,.int .i64 p),(7,.int .i64 e)]
   = some #[.int .i64 s,x0,x1,x2,x3,x4,x5,x6,x7,y0,y1,y2,y3,y4,y5,y6,y7,y8,y9,y10,y11,y12,y13,y14,y15,.slice ao n c,.int .i64 f,.int .i64 p,.int .i64 0,.int .i64 e]:=by kernel_rfl
theorem zjM (m : Mc) (ao : Option Addr) (n c : Nat) :
  Tryz.prog.built 34 [(0,.int .i64 m.steps),(1,.agg ((List.range 8).map (fun i => Value.int .i64 (m.regs i))).toArray),(2,.agg ((List.range 16).map (fun i => Value.int .i64 (m.cells i))).toArray),(3,.slice ao n c),(4,.int .i64 m.frames),(5,.int .i64 m.peak),(7,.int .i64 m.fin)]
   = some (zai m (.slice ao n c) 0).toArray:=by
 rw [show (List.range 8).map (fun i => Value.int .i64 (m.regs i)) = [.int .i64 (m.regs 0),.int .i64 (m.regs 1),.int .i64 (m.regs 2),.int .i64 (m.regs 3),.int .i64 (m.regs 4),.int .i64 (m.regs 5),.int .i64 (m.regs 6),.int .i64 (m.regs 7)] from rfl,
  show (List.range 16).map (fun i => Value.int .i64 (m.cells i)) = [.int .i64 (m.cells 0),.int .i64 (m.cells 1),.int .i64 (m.cells 2),.int .i64 (m.cells 3),.int .i64 (m.cells 4),.int .i64 (m.cells 5),.int .i64 (m.cells 6),.int .i64 (m.cells 7),.int .i64 (m.cells 8),.int .i64 (m.cells 9),.int .i64 (m.cells 10),.int .i64 (m.cells 11),.int .i64 (m.cells 12),.int .i64 (m.cells 13),.int .i64 (m.cells 14),.int .i64 (m.cells 15)] from rfl,zjL]
 rfl
theorem zjN (w : World) (b : Nat) (bv iv ov : Value) (m : Mc) (M : MchAt w b m bv iv ov) (hfr : m.frames = if m.fin = 2 then 0 else (m.backs.length : Int) + 1) (hfew : m.backs.length ≤ 15) : Calls Tryz.prog 110 #[.pointer (some ⟨b,0,none⟩)] w fun e w' => e = .returned (.int .i64 m.frames) ∧ w' = w:=by
 by_cases h : m.fin = 2
 ·rw [hfr,if_pos h]; exact zjC w b bv iv ov m M.mem h
 ·rw [hfr,if_neg h]
  obtain ⟨ao,c,rfl⟩:=za9 M.backs
  exact zdu w b _ c ao iv ov m M.mem (by omega) (by simpa using h)
theorem MchAt.drewN {w : World} {b : Nat} {m : Mc} {bv iv ov : Value} (h : MchAt w b m bv iv ov) (n : Nat) : MchAt (w.drewN n) b m bv iv ov:=⟨h.mem.drewN n,h.backs,h.out,h.inp⟩
theorem MchAt.alloc {w : World} {b : Nat} {m : Mc} {bv iv ov : Value} (h : MchAt w b m bv iv ov) (x : Obj) : MchAt (w.alloc x) b m bv iv ov :=
 (h.same (h.mem.alloc x) (World.grownBy_alloc w x _) rfl rfl rfl).1
theorem zlR (w : World) (b : Nat) (bv iv : Value) (ao : Option Addr) (no co : Nat) (m : Mc) (M : MchAt w b m bv iv (.slice ao no co)) (hfr : m.frames = if m.fin = 2 then 0 else (m.backs.length : Int) + 1) (hfew : m.backs.length ≤ 15) :
  Calls Tryz.prog 86 #[.pointer (some ⟨b,0,none⟩)] w fun e w' => e = .returned (.agg (zai m (.slice ao no co) 0).toArray) ∧ Below w.heap.size w w':=by
 have M2:=M.alloc Z34
 have hfc:=fun n => zjN ((w.alloc Z34).drewN n) b bv iv _ m (M2.drewN n) hfr hfew
 have lg:=M.mem.lt
 have hne4 : ¬ w.heap.size = b:=by omega
 have hne5 : ¬ b = w.heap.size:=by omega
 have cS:=M2.mem.cS
 have cO:=M2.mem.cO
 have cP:=M2.mem.cP
 have cE:=M2.mem.cE
 have hRS : (w.alloc Z34).rangeAt b 0 ((List.range 8).map (fun i => Value.int .i64 (m.regs i))):=fun j v hv => by
  have hj:=(List.getElem?_eq_some_iff.1 hv).1
  simp at hj
  rw [Nat.zero_add,M2.mem.cR j hj,← hv]
  simp [hj]
 have hCS : (w.alloc Z34).rangeAt b 8 ((List.range 16).map (fun i => Value.int .i64 (m.cells i))):=fun j v hv => by
  have hj:=(List.getElem?_eq_some_iff.1 hv).1
  simp at hj
  rw [M2.mem.cC j hj,← hv]
  simp [hj]
 have hbuilt:=zjM m ao no co
 have hl:=zaK m (.slice ao no co) 0
 have h1:=zbi m ao no co 0
 have hi31 : (Tryz.prog.info? 31).map (·.size) = some ((List.range 8).map (fun i => Value.int .i64 (m.regs i))).length:=by simp only [List.length_map,List.length_range]; exact Tryz.info31
 have hi32 : (Tryz.prog.info? 32).map (·.size) = some ((List.range 16).map (fun i => Value.int .i64 (m.cells i))).length:=by simp only [List.length_map,List.length_range]; exact Tryz.info32
 generalize (List.range 8).map (fun i => Value.int .i64 (m.regs i)) = RS at hRS hbuilt hi31
 generalize (List.range 16).map (fun i => Value.int .i64 (m.cells i)) = CS at hCS hbuilt hi32
 generalize zai m (.slice ao no co) 0 = ds at hbuilt hl h1 ⊢
 have hu31 : Tryz.prog.underlying 31 = some (.array _ _):=Tryz.underlying31
 have hu32 : Tryz.prog.underlying 32 = some (.array _ _):=Tryz.underlying32
 have ht : (w.alloc Z34).there w.heap.size 0 30:=zeu w
 have hinf : (Tryz.prog.info? 34).map (·.size) = some ds.toArray.size:=zby ds hl
 go_enter Tryz.func86,Tryz.ntmps86
 go_wp2_with fail
 refine zag 27 (by kernel_rfl) (by kernel_rfl) ?_
 simp only [List.take_succ_cons,List.take_zero,List.drop_succ_cons,List.drop_zero]
 repeat (first
  | (refine BigFrame.wpQuiet_want rfl ?_; intro K hK; refine zd8 31 _ rfl b 0 rfl RS _ hRS hu31 rfl hi31 ?_; refine hK _ ?_; clear hK K; simp only [Act.put,List.setIfInBounds_toArray,List.set_cons_succ,List.set_cons_zero])
  | (refine BigFrame.wpQuiet_want rfl ?_; intro K hK; refine zd8 32 _ rfl b 8 rfl CS _ hCS hu32 rfl hi32 ?_; refine hK _ ?_; clear hK K; simp only [Act.put,List.setIfInBounds_toArray,List.set_cons_succ,List.set_cons_zero])
  | go_big_quiet_step (first | (go_at_call 110; exact Calls.quiet_of_same (hfc _))))
 refine BigFrame.wpQuiet_want rfl ?_
 intro K hK
 refine zjK 34 _ rfl ds.toArray _ ?_ hbuilt ?_
 ·simp [Act.eval]
 refine hK _ ?_
 clear hK K
 simp only [Act.put,List.setIfInBounds_toArray,List.set_cons_succ,List.set_cons_zero]
 refine wpQuiet_nil ?_
 rintro _ ⟨nr,rfl⟩
 have ht2 : ((w.alloc Z34).drewN nr).there w.heap.size 0 ds.toArray.size:=by rw [show ds.toArray.size = 30 by simp [hl]]; exact ht
 have hb0 : Below w.heap.size w ((w.alloc Z34).drewN nr):=((Below.refl w.heap.size w).alloc (Nat.le_refl _) _).trans ((zdQ _ nr).mono (by simp))
 generalize (w.alloc Z34).drewN nr = W at ht2 hb0 ⊢
 repeat (first
  | (refine wpList_store_mid rfl 34 _ _ rfl w.heap.size 0 ds.toArray rfl rfl ht2 hinf h1 ?_)
  | go_values | go_skip | go_guarded | go_step | go_upon | go_back)
 have hu34 : Tryz.prog.underlying 34 = some (.struct _):=Tryz.underlying34
 have hr:=World.rangeAt_setCells_same W w.heap.size 0 ds (by rw [show ds.length = ds.toArray.size by simp]; exact ht2)
 have hres:=run_loadVar_mid (W.setCells w.heap.size 0 ds) w.heap.size 0 34 ds _ hr hu34 rfl (by rw [hl]; exact Tryz.info34)
 exact bodyPost_ret (v:=.agg ds.toArray) (zcH Tryz.results86 _ ⟨w.heap.size,0,none⟩ rfl hres) rfl ⟨rfl,za6 ds 0 hb0 (Nat.le_refl _)⟩
theorem zpA (w : World) (ao bo : Option Addr) (n1 c1 n2 c2 pm : Nat) (sort line a b c n k : Int) (nm : ByteArray) :
  Calls Tryz.prog 81 #[.agg #[.slice ao n1 c1,.map (some pm),.slice bo n2 c2],stm sort line ⟨#[115,101,116]⟩ a b c n nm,.int .i64 k] w fun e w' => e = .returned (.iface 167 (.agg #[.int .i64 a,.int .i64 n])) ∧ Below w.heap.size w w':=by
 have hrb : ∀ W,(Instr.build 167 #[(0,.int .i64 a),(1,.int .i64 n)]).run Tryz.prog W = .ok (.agg #[.int .i64 a,.int .i64 n]) W:=fun W => run_build W 167 _ _ (by kernel_rfl)
 go_enter Tryz.func81,Tryz.ntmps81
 go_wp2
 go_ret
 exact ⟨rfl,(((Below.refl _ _).alloc (Nat.le_refl _) _).alloc (by simp) _).alloc (by simp; omega) _⟩
theorem zpB (w : World) (ao bo : Option Addr) (n1 c1 n2 c2 pm : Nat) (sort line a b c n k : Int) (nm : ByteArray) :
  Calls Tryz.prog 81 #[.agg #[.slice ao n1 c1,.map (some pm),.slice bo n2 c2],stm sort line ⟨#[109,111,118]⟩ a b c n nm,.int .i64 k] w fun e w' => e = .returned (.iface 169 (.agg #[.int .i64 a,.int .i64 b])) ∧ Below w.heap.size w w':=by
 have hrb : ∀ W,(Instr.build 169 #[(0,.int .i64 a),(1,.int .i64 b)]).run Tryz.prog W = .ok (.agg #[.int .i64 a,.int .i64 b]) W:=fun W => run_build W 169 _ _ (by kernel_rfl)
 go_enter Tryz.func81,Tryz.ntmps81
 go_wp2
 go_ret
 exact ⟨rfl,(((Below.refl _ _).alloc (Nat.le_refl _) _).alloc (by simp) _).alloc (by simp; omega) _⟩
theorem zpC (w : World) (ao bo : Option Addr) (n1 c1 n2 c2 pm : Nat) (sort line a b c n k : Int) (nm : ByteArray) :
  Calls Tryz.prog 81 #[.agg #[.slice ao n1 c1,.map (some pm),.slice bo n2 c2],stm sort line ⟨#[97,100,100]⟩ a b c n nm,.int .i64 k] w fun e w' => e = .returned (.iface 171 (.agg #[.int .i64 a,.int .i64 b,.int .i64 c])) ∧ Below w.heap.size w w':=by
 have hrb : ∀ W,(Instr.build 171 #[(0,.int .i64 a),(1,.int .i64 b),(2,.int .i64 c)]).run Tryz.prog W = .ok (.agg #[.int .i64 a,.int .i64 b,.int .i64 c]) W:=fun W => run_build W 171 _ _ (by kernel_rfl)
 go_enter Tryz.func81,Tryz.ntmps81
 go_wp2
 go_ret
 exact ⟨rfl,(((Below.refl _ _).alloc (Nat.le_refl _) _).alloc (by simp) _).alloc (by simp; omega) _⟩
theorem zpD (w : World) (ao bo : Option Addr) (n1 c1 n2 c2 pm : Nat) (sort line a b c n k : Int) (nm : ByteArray) :
  Calls Tryz.prog 81 #[.agg #[.slice ao n1 c1,.map (some pm),.slice bo n2 c2],stm sort line ⟨#[115,117,98]⟩ a b c n nm,.int .i64 k] w fun e w' => e = .returned (.iface 172 (.agg #[.int .i64 a,.int .i64 b,.int .i64 c])) ∧ Below w.heap.size w w':=by
 have hrb : ∀ W,(Instr.build 172 #[(0,.int .i64 a),(1,.int .i64 b),(2,.int .i64 c)]).run Tryz.prog W = .ok (.agg #[.int .i64 a,.int .i64 b,.int .i64 c]) W:=fun W => run_build W 172 _ _ (by kernel_rfl)
 go_enter Tryz.func81,Tryz.ntmps81
 go_wp2
 go_ret
 exact ⟨rfl,(((Below.refl _ _).alloc (Nat.le_refl _) _).alloc (by simp) _).alloc (by simp; omega) _⟩
theorem zpE (w : World) (ao bo : Option Addr) (n1 c1 n2 c2 pm : Nat) (sort line a b c n k : Int) (nm : ByteArray) :
  Calls Tryz.prog 81 #[.agg #[.slice ao n1 c1,.map (some pm),.slice bo n2 c2],stm sort line ⟨#[109,117,108]⟩ a b c n nm,.int .i64 k] w fun e w' => e = .returned (.iface 173 (.agg #[.int .i64 a,.int .i64 b,.int .i64 c])) ∧ Below w.heap.size w w':=by
 have hrb : ∀ W,(Instr.build 173 #[(0,.int .i64 a),(1,.int .i64 b),(2,.int .i64 c)]).run Tryz.prog W = .ok (.agg #[.int .i64 a,.int .i64 b,.int .i64 c]) W:=fun W => run_build W 173 _ _ (by kernel_rfl)
 go_enter Tryz.func81,Tryz.ntmps81
 go_wp2
 go_ret
 exact ⟨rfl,(((Below.refl _ _).alloc (Nat.le_refl _) _).alloc (by simp) _).alloc (by simp; omega) _⟩
theorem zpF (w : World) (ao bo : Option Addr) (n1 c1 n2 c2 pm : Nat) (sort line a b c n k : Int) (nm : ByteArray) :
  Calls Tryz.prog 81 #[.agg #[.slice ao n1 c1,.map (some pm),.slice bo n2 c2],stm sort line ⟨#[105,110,99]⟩ a b c n nm,.int .i64 k] w fun e w' => e = .returned (.iface 174 (.agg #[.int .i64 a,.int .i64 n])) ∧ Below w.heap.size w w':=by
 have hrb : ∀ W,(Instr.build 174 #[(0,.int .i64 a),(1,.int .i64 n)]).run Tryz.prog W = .ok (.agg #[.int .i64 a,.int .i64 n]) W:=fun W => run_build W 174 _ _ (by kernel_rfl)
 go_enter Tryz.func81,Tryz.ntmps81
 go_wp2
 go_ret
 exact ⟨rfl,(((Below.refl _ _).alloc (Nat.le_refl _) _).alloc (by simp) _).alloc (by simp; omega) _⟩
theorem znD (w : World) (ao bo : Option Addr) (n1 c1 n2 c2 pm : Nat) (sort line a b c n k : Int) (nm : ByteArray) :
  Calls Tryz.prog 81 #[.agg #[.slice ao n1 c1,.map (some pm),.slice bo n2 c2],stm sort line ⟨#[108,111,97,100]⟩ a b c n nm,.int .i64 k] w fun e w' => e = .returned (.iface 176 (.agg #[.int .i64 a,.int .i64 b])) ∧ Below w.heap.size w w':=by
 have hrb : ∀ W,(Instr.build 176 #[(0,.int .i64 a),(1,.int .i64 b)]).run Tryz.prog W = .ok (.agg #[.int .i64 a,.int .i64 b]) W:=fun W => run_build W 176 _ _ (by kernel_rfl)
 go_enter Tryz.func81,Tryz.ntmps81
 go_wp2
 go_ret
 exact ⟨rfl,(((Below.refl _ _).alloc (Nat.le_refl _) _).alloc (by simp) _).alloc (by simp; omega) _⟩
theorem zma (w : World) (ao bo : Option Addr) (n1 c1 n2 c2 pm : Nat) (sort line a b c n k : Int) (nm : ByteArray) :
  Calls Tryz.prog 81 #[.agg #[.slice ao n1 c1,.map (some pm),.slice bo n2 c2],stm sort line ⟨#[115,116,111,114,101]⟩ a b c n nm,.int .i64 k] w fun e w' => e = .returned (.iface 178 (.agg #[.int .i64 a,.int .i64 b])) ∧ Below w.heap.size w w':=by
 have hrb : ∀ W,(Instr.build 178 #[(0,.int .i64 a),(1,.int .i64 b)]).run Tryz.prog W = .ok (.agg #[.int .i64 a,.int .i64 b]) W:=fun W => run_build W 178 _ _ (by kernel_rfl)
 go_enter Tryz.func81,Tryz.ntmps81
 go_wp2
 go_ret
 exact ⟨rfl,(((Below.refl _ _).alloc (Nat.le_refl _) _).alloc (by simp) _).alloc (by simp; omega) _⟩
theorem znE (w : World) (ao bo : Option Addr) (n1 c1 n2 c2 pm : Nat) (sort line a b c n k : Int) (nm : ByteArray) :
  Calls Tryz.prog 81 #[.agg #[.slice ao n1 c1,.map (some pm),.slice bo n2 c2],stm sort line ⟨#[114,101,97,100]⟩ a b c n nm,.int .i64 k] w fun e w' => e = .returned (.iface 180 (.agg #[.int .i64 a])) ∧ Below w.heap.size w w':=by
 have hrb : ∀ W,(Instr.build 180 #[(0,.int .i64 a)]).run Tryz.prog W = .ok (.agg #[.int .i64 a]) W:=fun W => run_build W 180 _ _ (by kernel_rfl)
 go_enter Tryz.func81,Tryz.ntmps81
 go_wp2
 go_ret
 exact ⟨rfl,(((Below.refl _ _).alloc (Nat.le_refl _) _).alloc (by simp) _).alloc (by simp; omega) _⟩
theorem zmb (w : World) (ao bo : Option Addr) (n1 c1 n2 c2 pm : Nat) (sort line a b c n k : Int) (nm : ByteArray) :
  Calls Tryz.prog 81 #[.agg #[.slice ao n1 c1,.map (some pm),.slice bo n2 c2],stm sort line ⟨#[119,114,105,116,101]⟩ a b c n nm,.int .i64 k] w fun e w' => e = .returned (.iface 182 (.agg #[.int .i64 a])) ∧ Below w.heap.size w w':=by
 have hrb : ∀ W,(Instr.build 182 #[(0,.int .i64 a)]).run Tryz.prog W = .ok (.agg #[.int .i64 a]) W:=fun W => run_build W 182 _ _ (by kernel_rfl)
 go_enter Tryz.func81,Tryz.ntmps81
 go_wp2
 go_ret
 exact ⟨rfl,(((Below.refl _ _).alloc (Nat.le_refl _) _).alloc (by simp) _).alloc (by simp; omega) _⟩
theorem znF (w : World) (ao bo : Option Addr) (n1 c1 n2 c2 pm : Nat) (sort line a b c n k : Int) (nm : ByteArray) :
  Calls Tryz.prog 81 #[.agg #[.slice ao n1 c1,.map (some pm),.slice bo n2 c2],stm sort line ⟨#[98,97,99,107]⟩ a b c n nm,.int .i64 k] w fun e w' => e = .returned (.iface 192 (.agg #[])) ∧ Below w.heap.size w w':=by
 have hrb : ∀ W,(Instr.build 192 #[]).run Tryz.prog W = .ok (.agg #[]) W:=fun W => run_build W 192 _ _ (by kernel_rfl)
 go_enter Tryz.func81,Tryz.ntmps81
 go_wp2
 go_ret
 exact ⟨rfl,(((Below.refl _ _).alloc (Nat.le_refl _) _).alloc (by simp) _).alloc (by simp; omega) _⟩
theorem znG (w : World) (ao bo : Option Addr) (n1 c1 n2 c2 pm : Nat) (sort line a b c n k : Int) (nm : ByteArray) :
  Calls Tryz.prog 81 #[.agg #[.slice ao n1 c1,.map (some pm),.slice bo n2 c2],stm sort line ⟨#[115,116,111,112]⟩ a b c n nm,.int .i64 k] w fun e w' => e = .returned (.iface 193 (.agg #[])) ∧ Below w.heap.size w w':=by
 have hrb : ∀ W,(Instr.build 193 #[]).run Tryz.prog W = .ok (.agg #[]) W:=fun W => run_build W 193 _ _ (by kernel_rfl)
 go_enter Tryz.func81,Tryz.ntmps81
 go_wp2
 go_ret
 exact ⟨rfl,(((Below.refl _ _).alloc (Nat.le_refl _) _).alloc (by simp) _).alloc (by simp; omega) _⟩
end Go.Proofs.YtfpgjkbjbbgciaaGreatDoor
