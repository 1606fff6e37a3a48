import Derived.Test.YtfpgjkbjbbgciaaGreatDoorMe24
import Derived.Test.YtfpgjkbjbbgciaaGreatDoorChecked
import Derived.Test.YtfpgjkbjbbgciaaGreatDoorRows
import Derived.Lib.LaidIn
import Derived.Lib.LaidU8T
import Derived.PinnedBridge
import Derived.Stop.LaidErr
import Derived.Deep.DeepHandedRow
import Derived.Deep.DeepWitnessRowRef
import Derived.ProofKit
import Derived.Shelf.Vars
import Derived.SizedLaws
import Derived.OpenShut
import Derived.Laws.Externs
set_option maxRecDepth 100000
set_option maxHeartbeats 8000000
namespace Go.Proofs.YtfpgjkbjbbgciaaGreatDoor
open Go.RowKit Sp
def SlN (w : World) (v : Value) (l : List Int) : Prop:=∃ ao cap,v = .slice ao l.length cap ∧ (0 < l.length → ∃ g o,ao = some ⟨g,o,none⟩ ∧ ∀ j (h : j < l.length),w.cell? ⟨g,o + j,none⟩ = some (.int .i64 l[j]))
theorem SlN.of_row {w : World} {B _n : Nat} {v : Value} {l : List Int} (h : w.ownsRow B 2 1 v l.length (i64s l)) : SlN w v l:=by
 obtain ⟨ao,cap,rfl⟩:=zb8 h
 refine ⟨ao,cap,rfl,fun hp => ?_⟩
 obtain ⟨g,c,e,_,_⟩:=h.form hp
 simp only [Value.slice.injEq,true_and] at e
 obtain ⟨rfl,rfl⟩:=e
 refine ⟨g,0,rfl,fun j hj => ?_⟩
 rw [Nat.zero_add,World.ownsRow.cellAt h j (by omega)]
 simp [hj]
end Go.Proofs.YtfpgjkbjbbgciaaGreatDoor
namespace Go.Proofs.YtfpgjkbjbbgciaaGreatDoor
open Go.ChangeShapes Go.WideShapes Go.ChangeAt Go.RowKit Sp
open Go.ChangeMaps (open_string shut_string)
theorem zoT {H : Type} (l r : List (DataW H)) : l.length + r.length ≤ Rows.uptoBulk (.slice l r):=by
 have key : ∀ l : List (DataW H),l.length ≤ Rows.uptoBulkAll l:=by
  intro l
  induction l with
  | nil => simp
  | cons d l ih =>
   have : 1 ≤ Rows.uptoBulk d:=by
    cases d with
    | lit l => cases l <;> simp [Rows.uptoBulk]
    | _ => simp [Rows.uptoBulk]
   simp only [Rows.uptoBulkAll,List.length_cons]
   omega
 have h1:=key l
 have h2:=key r
 simp only [Rows.uptoBulk]
 omega
end Go.Proofs.YtfpgjkbjbbgciaaGreatDoor
namespace Go.Proofs.YtfpgjkbjbbgciaaGreatDoor
open Go.RowKit Sp
theorem zcN {W1 : World} {n : Nat} (hs1 : W1.heap.size = n) (cs : List Value) (hlen : cs.length = 30) : (W1.alloc Z34).there n 0 cs.toArray.size:=by
 rw [show cs.toArray.size = 30 by simp [hlen],← hs1]
 exact zdX W1
theorem zpf (x y : Int) (hx : 0 ≤ x) (hy : 0 ≤ y) (W : World) : (callFunc 236 #[.int .u64 x,.int .u64 y,.int .u64 0]).run Tryz.prog W = .ok (.value (.tuple #[.int .u64 ((x + y) % 18446744073709551616),.int .u64 ((x + y) / 18446744073709551616)])) W:=by
 rw [run_callFunc_extern Tryz.func236 (by kernel_rfl) (by kernel_rfl) (by kernel_rfl) (e:=add64Entry) (by kernel_rfl),run_add64 _ _ 0 hx hy (by omega) (by omega)]
 simp only [Result.andThen,Int.add_zero]
theorem zaB {w : World} {a b c : Obj} : Below w.heap.size w (((w.alloc a).alloc b).alloc c):=(((Below.refl _ _).alloc (Nat.le_refl _) _).alloc (by simp) _).alloc (by simp; omega) _
theorem zrg (w : World) (ao bo : Option Addr) (n1 c1 n2 c2 pm : Nat) (sort line a b c n k to : Int) (nm : ByteArray)
  (hlab : ∀ W,Below w.heap.size w W → Calls Tryz.prog 108 #[.agg #[.slice ao n1 c1,.map (some pm),.slice bo n2 c2],.string nm,.int .i64 k] W fun e w' => e = .returned (.int .i64 to) ∧ Below W.heap.size W w') :
  Calls Tryz.prog 81 #[.agg #[.slice ao n1 c1,.map (some pm),.slice bo n2 c2],stm sort line ⟨#[106,117,109,112]⟩ a b c n nm,.int .i64 k] w fun e w' => e = .returned (.iface 185 (.agg #[.int .i64 to])) ∧ Below w.heap.size w w':=by
 have hrb : ∀ W,(Instr.build 185 #[(0,.int .i64 to)]).run Tryz.prog W = .ok (.agg #[.int .i64 to]) W:=fun W => run_build W 185 _ _ (by kernel_rfl)
 have hB : Below w.heap.size w (((w.alloc (.cells #[.slice ao n1 c1,.map (some pm),.slice bo n2 c2] 128)).alloc (.cells #[.int .i64 sort,.int .i64 line,.string ⟨#[106,117,109,112]⟩,.int .i64 a,.int .i64 b,.int .i64 c,.int .i64 n,.string nm] 135)).alloc (.cells #[.int .i64 a,.int .i64 b,.int .i64 c] 133)):=zaB
 go_enter Tryz.func81,Tryz.ntmps81
 go_wp2_with (first | (go_at_call 108; refine (hlab _ hB).mono ?_; rintro e w2 ⟨rfl,hb2⟩))
 go_ret
 exact ⟨rfl,hB.trans (hb2.mono hB.size)⟩
theorem zrh (w : World) (ao bo : Option Addr) (n1 c1 n2 c2 pm : Nat) (sort line a b c n k to : Int) (nm : ByteArray)
  (hlab : ∀ W,Below w.heap.size w W → Calls Tryz.prog 109 #[.agg #[.slice ao n1 c1,.map (some pm),.slice bo n2 c2],.string nm] W fun e w' => e = .returned (.int .i64 to) ∧ Below W.heap.size W w') :
  Calls Tryz.prog 81 #[.agg #[.slice ao n1 c1,.map (some pm),.slice bo n2 c2],stm sort line ⟨#[99,97,108,108]⟩ a b c n nm,.int .i64 k] w fun e w' => e = .returned (.iface 190 (.agg #[.int .i64 to])) ∧ Below w.heap.size w w':=by
 have hrb : ∀ W,(Instr.build 190 #[(0,.int .i64 to)]).run Tryz.prog W = .ok (.agg #[.int .i64 to]) W:=fun W => run_build W 190 _ _ (by kernel_rfl)
 have hB : Below w.heap.size w (((w.alloc (.cells #[.slice ao n1 c1,.map (some pm),.slice bo n2 c2] 128)).alloc (.cells #[.int .i64 sort,.int .i64 line,.string ⟨#[99,97,108,108]⟩,.int .i64 a,.int .i64 b,.int .i64 c,.int .i64 n,.string nm] 135)).alloc (.cells #[.int .i64 a,.int .i64 b,.int .i64 c] 133)):=zaB
 go_enter Tryz.func81,Tryz.ntmps81
 go_wp2_with (first | (go_at_call 109; refine (hlab _ hB).mono ?_; rintro e w2 ⟨rfl,hb2⟩))
 go_ret
 exact ⟨rfl,hB.trans (hb2.mono hB.size)⟩
theorem ze5 {P : Program} {o : Oper} {a : Act} {W : World} {K : Act → Prop} (ty : TypeId) (x : Operand) (ho : o.op = .load ty x) (b f : Nat) (hx : a.eval x = .pointer (some ⟨b,f,none⟩)) (cs : List Value) (d : TypeDesc) (hc : W.rangeAt b f cs)
  (hu : P.underlying ty = some d) (hd : d.isRow = true) (hi : (P.info? ty).map (·.size) = some cs.length) (h : K (a.put o.dst (.agg cs.toArray))) : o.quiet P a (fun w' => ∃ k,w' = W.drewN k) K:=by
 refine ⟨_,fun w hw => ?_,h⟩
 obtain ⟨k,rfl⟩:=hw
 have hc2 : (W.drewN k).rangeAt b f cs:=hc
 unfold Oper.quietAt execOp
 simp only [ho,hx,Instr.loadAt,Instr.sureAddr,Sem.run_bind,Sem.run_pure,Result.andThen_ok,run_loadVar_mid _ b f ty cs d hc2 hu hd hi]
 exact ⟨rfl,rfl⟩
theorem zdu (w : World) (ds : List Value) (t : TypeId) : (w.alloc (.cells ds.toArray t)).rangeAt w.heap.size 0 ds:=by
 intro j v hv
 rw [Nat.zero_add,World.cell?_alloc_new (w:=w) ds.toArray t j,List.getElem?_toArray]
 exact hv
theorem zlY {w : World} {b o : Nat} {cs : List Value} (h : w.rangeAt b o cs) (x : Obj) (hb : b < w.heap.size) : (w.alloc x).rangeAt b o cs:=by
 intro j v hv
 rw [← h j v hv]
 exact World.cell?_alloc_lt w _ _ hb
theorem SlN.alloc {w : World} {v : Value} {l : List Int} (h : SlN w v l) (x : Obj) : SlN (w.alloc x) v l:=by
 obtain ⟨ao,cap,h1,h3⟩:=h
 refine ⟨ao,cap,h1,fun hp => ?_⟩
 obtain ⟨g,o,e,hc⟩:=h3 hp
 exact ⟨g,o,e,fun j hj => by rw [World.cell?_alloc_some w _ x (by rw [hc j hj]; rfl)]; exact hc j hj⟩
theorem Tryz.info31 : (Tryz.prog.info? 31).map (·.size) = some 8:=by kernel_rfl
theorem Tryz.info32 : (Tryz.prog.info? 32).map (·.size) = some 16:=by kernel_rfl
theorem zw5 (x0 x1 x2 x3 x4 x5 x6 x7 : Int) (w : World) : (Op.equalIn 10000 31 (.agg #[.int .i64 x0,.int .i64 x1,.int .i64 x2,.int .i64 x3,.int .i64 x4,.int .i64 x5,.int .i64 x6,.int .i64 x7]) (.agg #[.int .i64 x0,.int .i64 x1,.int .i64 x2,.int .i64 x3,.int .i64 x4,.int .i64 x5,.int .i64 x6,.int .i64 x7])).run Tryz.prog w = .ok true w:=by
 have u2:=Tryz.underlying2
 have a2:=Tryz.isAgg2
 have z2:=Tryz.sizeOf2
 rw [show (10000 : Nat) = 9999 + 1 from rfl,Op.equalIn]
 simp only [Sem.run_bind,run_underlying Tryz.underlying31,Result.andThen_ok]
 simp only [Std.Legacy.Range.forIn_eq_forIn_range',Std.Legacy.Range.size,Nat.sub_zero,Nat.add_sub_cancel,Nat.div_one,List.range'_succ,List.range'_zero,List.forIn_cons,List.forIn_nil]
 go_simp
theorem zw6 (x0 x1 x2 x3 x4 x5 x6 x7 x8 x9 x10 x11 x12 x13 x14 x15 : Int) (w : World) : (Op.equalIn 10000 32 (.agg #[.int .i64 x0,.int .i64 x1,.int .i64 x2,.int .i64 x3,.int .i64 x4,.int .i64 x5,.int .i64 x6,.int .i64 x7,.int .i64 x8,.int .i64 x9,.int .i64 x10,.int .i64 x11,.int .i64 x12,.int .i64 x13,.int .i64 x14,.int .i64 x15]) (.agg #[.int .i64 x0,.int .i64 x1,.int .i64 x2,.int .i64 x3,.int .i64 x4,.int .i64 x5,.int .i64 x6,.int .i64 x7,.int .i64 x8,.int .i64 x9,.int .i64 x10,.int .i64 x11,.int .i64 x12,.int .i64 x13,.int .i64 x14,.int .i64 x15])).run Tryz.prog w = .ok true w:=by
 have u2:=Tryz.underlying2
 have a2:=Tryz.isAgg2
 have z2:=Tryz.sizeOf2
 rw [show (10000 : Nat) = 9999 + 1 from rfl,Op.equalIn]
 simp only [Sem.run_bind,run_underlying Tryz.underlying32,Result.andThen_ok]
 simp only [Std.Legacy.Range.forIn_eq_forIn_range',Std.Legacy.Range.size,Nat.sub_zero,Nat.add_sub_cancel,Nat.div_one,List.range'_succ,List.range'_zero,List.forIn_cons,List.forIn_nil]
 go_simp
structure StAt (w : World) (b : Nat) (m : Mc) (ov : Value) (line : Int) : Prop where
 cS : w.cell? ⟨b,0,none⟩ = some (.int .i64 m.steps)
 cR : w.rangeAt b 1 ((List.range 8).map (fun i => Value.int .i64 (m.regs i)))
 cC : w.rangeAt b 9 ((List.range 16).map (fun i => Value.int .i64 (m.cells i)))
 cO : w.cell? ⟨b,25,none⟩ = some ov
 cF : w.cell? ⟨b,26,none⟩ = some (.int .i64 m.frames)
 cP : w.cell? ⟨b,27,none⟩ = some (.int .i64 m.peak)
 cA : w.cell? ⟨b,28,none⟩ = some (.int .i64 line)
 cE : w.cell? ⟨b,29,none⟩ = some (.int .i64 m.fin)
theorem StAt.of_range {w : World} {b : Nat} {m : Mc} {ov : Value} {line : Int} (h : w.rangeAt b 0 (zak m ov line)) : StAt w b m ov line:=by
 have hx : ∀ j v,(zak m ov line)[j]? = some v → w.cell? ⟨b,j,none⟩ = some v:=fun j v hv => by have:=h j v hv; rwa [Nat.zero_add] at this
 refine ⟨hx 0 _ (by simp [zak]),fun j v hv => ?_,fun j v hv => ?_,hx 25 _ (by simp [zak]),hx 26 _ (by simp [zak]),hx 27 _ (by simp [zak]),hx 28 _ (by simp [zak]),hx 29 _ (by simp [zak])⟩
 ·have hj:=(List.getElem?_eq_some_iff.1 hv).1
  simp at hj
  refine hx (1 + j) v ?_
  rw [← hv]
  unfold zak
  rw [List.getElem?_append_right (by simp),List.getElem?_append_left (by simp; omega)]
  simp
 ·have hj:=(List.getElem?_eq_some_iff.1 hv).1
  simp at hj
  refine hx (9 + j) v ?_
  rw [← hv]
  unfold zak
  rw [List.getElem?_append_right (by simp; omega),List.getElem?_append_right (by simp),List.getElem?_append_left (by simp; omega)]
  simp
theorem zlZ {P : Program} {o : Oper} {a : Act} {C : World → Prop} {K : Act → Prop} (t : TypeId) (parts : Array (Nat × Operand)) (ho : o.op = .build t parts) (cells : Array Value) (vs : List (Nat × Value)) (hv : (parts.map fun (i,x) => (i,a.eval x)) = vs.toArray) (hb : P.built t vs = some cells)
  (h : K (a.put o.dst (.agg cells))) : o.quiet P a C K:=by
 refine ⟨_,fun w _ => ?_,h⟩
 unfold Oper.quietAt execOp
 simp only [ho,hv,Sem.run_bind,run_build w t _ cells hb,Sem.run_pure,Result.andThen_ok]
 exact ⟨rfl,rfl⟩
theorem zma (s f p e : Int) (ao : Option Addr) (n c : Nat) (x0 x1 x2 x3 x4 x5 x6 x7 y0 y1 y2 y3 y4 y5 y6 y7 y8 y9 y10 y11 y12 y13 y14 y15 : Value) :
  Tryz.prog.built 34 [(0,.int .i64 s),(1,.agg #[x0,x1,x2,x3,x4,x5,x6,x7]),(2,.agg #[y0,y1,y2,y3,y4,y5,y6,y7,y8,y9,y10,y11,y12,y13,y14,y15]),(3,.slice ao n c),(4,.int .i64 f),(5,.int .i64 p),(7,.int .i64 e)]
   = some #[.int .i64 s,x0,x1,x2,x3,x4,x5,x6,x7,y0,y1,y2,y3,y4,y5,y6,y7,y8,y9,y10,y11,y12,y13,y14,y15,.slice ao n c,.int .i64 f,.int .i64 p,.int .i64 0,.int .i64 e]:=by kernel_rfl
theorem zmb (m : Mc) (ao : Option Addr) (n c : Nat) :
  Tryz.prog.built 34 [(0,.int .i64 m.steps),(1,.agg ((List.range 8).map (fun i => Value.int .i64 (m.regs i))).toArray),(2,.agg ((List.range 16).map (fun i => Value.int .i64 (m.cells i))).toArray),(3,.slice ao n c),(4,.int .i64 m.frames),(5,.int .i64 m.peak),(7,.int .i64 m.fin)]
   = some (zak m (.slice ao n c) 0).toArray:=by
 rw [show (List.range 8).map (fun i => Value.int .i64 (m.regs i)) = [.int .i64 (m.regs 0),.int .i64 (m.regs 1),.int .i64 (m.regs 2),.int .i64 (m.regs 3),.int .i64 (m.regs 4),.int .i64 (m.regs 5),.int .i64 (m.regs 6),.int .i64 (m.regs 7)] from rfl,
  show (List.range 16).map (fun i => Value.int .i64 (m.cells i)) = [.int .i64 (m.cells 0),.int .i64 (m.cells 1),.int .i64 (m.cells 2),.int .i64 (m.cells 3),.int .i64 (m.cells 4),.int .i64 (m.cells 5),.int .i64 (m.cells 6),.int .i64 (m.cells 7),.int .i64 (m.cells 8),.int .i64 (m.cells 9),.int .i64 (m.cells 10),.int .i64 (m.cells 11),.int .i64 (m.cells 12),.int .i64 (m.cells 13),.int .i64 (m.cells 14),.int .i64 (m.cells 15)] from rfl,zma]
 rfl
theorem zmc (w : World) (b : Nat) (bv iv ov : Value) (m : Mc) (M : MchAt w b m bv iv ov) (hfr : m.frames = if m.fin = 2 then 0 else (m.backs.length : Int) + 1) (hfew : m.backs.length ≤ 15) : Calls Tryz.prog 110 #[.pointer (some ⟨b,0,none⟩)] w fun e w' => e = .returned (.int .i64 m.frames) ∧ w' = w:=by
 by_cases h : m.fin = 2
 ·rw [hfr,if_pos h]; exact zlR w b bv iv ov m M.mem h
 ·rw [hfr,if_neg h]
  obtain ⟨ao,c,rfl⟩:=zb8 M.backs
  exact zet w b _ c ao iv ov m M.mem (by omega) (by simpa using h)
theorem MchAt.drewN {w : World} {b : Nat} {m : Mc} {bv iv ov : Value} (h : MchAt w b m bv iv ov) (n : Nat) : MchAt (w.drewN n) b m bv iv ov:=⟨h.mem.drewN n,h.backs,h.out,h.inp⟩
theorem MchAt.alloc {w : World} {b : Nat} {m : Mc} {bv iv ov : Value} (h : MchAt w b m bv iv ov) (x : Obj) : MchAt (w.alloc x) b m bv iv ov :=
 (h.same (h.mem.alloc x) (World.grownBy_alloc w x _) rfl rfl rfl).1
theorem zoI (w : World) (b : Nat) (bv iv : Value) (ao : Option Addr) (no co : Nat) (m : Mc) (M : MchAt w b m bv iv (.slice ao no co)) (hfr : m.frames = if m.fin = 2 then 0 else (m.backs.length : Int) + 1) (hfew : m.backs.length ≤ 15) :
  Calls Tryz.prog 86 #[.pointer (some ⟨b,0,none⟩)] w fun e w' => e = .returned (.agg (zak m (.slice ao no co) 0).toArray) ∧ Below w.heap.size w w':=by
 have M2:=M.alloc Z34
 have hfc:=fun n => zmc ((w.alloc Z34).drewN n) b bv iv _ m (M2.drewN n) hfr hfew
 have lg:=M.mem.lt
 have hne4 : ¬ w.heap.size = b:=by omega
 have hne5 : ¬ b = w.heap.size:=by omega
 have cS:=M2.mem.cS
 have cO:=M2.mem.cO
 have cP:=M2.mem.cP
 have cE:=M2.mem.cE
 have hRS : (w.alloc Z34).rangeAt b 0 ((List.range 8).map (fun i => Value.int .i64 (m.regs i))):=fun j v hv => by
  have hj:=(List.getElem?_eq_some_iff.1 hv).1
  simp at hj
  rw [Nat.zero_add,M2.mem.cR j hj,← hv]
  simp [hj]
 have hCS : (w.alloc Z34).rangeAt b 8 ((List.range 16).map (fun i => Value.int .i64 (m.cells i))):=fun j v hv => by
  have hj:=(List.getElem?_eq_some_iff.1 hv).1
  simp at hj
  rw [M2.mem.cC j hj,← hv]
  simp [hj]
 have hbuilt:=zmb m ao no co
 have hl:=zaE m (.slice ao no co) 0
 have h1:=zaO m ao no co 0
 have hi31 : (Tryz.prog.info? 31).map (·.size) = some ((List.range 8).map (fun i => Value.int .i64 (m.regs i))).length:=by simp only [List.length_map,List.length_range]; exact Tryz.info31
 have hi32 : (Tryz.prog.info? 32).map (·.size) = some ((List.range 16).map (fun i => Value.int .i64 (m.cells i))).length:=by simp only [List.length_map,List.length_range]; exact Tryz.info32
 generalize (List.range 8).map (fun i => Value.int .i64 (m.regs i)) = RS at hRS hbuilt hi31
 generalize (List.range 16).map (fun i => Value.int .i64 (m.cells i)) = CS at hCS hbuilt hi32
 generalize zak m (.slice ao no co) 0 = ds at hbuilt hl h1 ⊢
 have hu31 : Tryz.prog.underlying 31 = some (.array _ _):=Tryz.underlying31
 have hu32 : Tryz.prog.underlying 32 = some (.array _ _):=Tryz.underlying32
 have ht : (w.alloc Z34).there w.heap.size 0 30:=zdX w
 have hinf : (Tryz.prog.info? 34).map (·.size) = some ds.toArray.size:=zaU ds hl
 go_enter Tryz.func86,Tryz.ntmps86
 go_wp2_with fail
 refine zan 27 (by kernel_rfl) (by kernel_rfl) ?_
 simp only [List.take_succ_cons,List.take_zero,List.drop_succ_cons,List.drop_zero]
 repeat (first
  | (refine BigFrame.wpQuiet_want rfl ?_; intro K hK; refine ze5 31 _ rfl b 0 rfl RS _ hRS hu31 rfl hi31 ?_; refine hK _ ?_; clear hK K; simp only [Act.put,List.setIfInBounds_toArray,List.set_cons_succ,List.set_cons_zero])
  | (refine BigFrame.wpQuiet_want rfl ?_; intro K hK; refine ze5 32 _ rfl b 8 rfl CS _ hCS hu32 rfl hi32 ?_; refine hK _ ?_; clear hK K; simp only [Act.put,List.setIfInBounds_toArray,List.set_cons_succ,List.set_cons_zero])
  | go_big_quiet_step (first | (go_at_call 110; exact Calls.quiet_of_same (hfc _))))
 refine BigFrame.wpQuiet_want rfl ?_
 intro K hK
 refine zlZ 34 _ rfl ds.toArray _ ?_ hbuilt ?_
 ·simp [Act.eval]
 refine hK _ ?_
 clear hK K
 simp only [Act.put,List.setIfInBounds_toArray,List.set_cons_succ,List.set_cons_zero]
 refine wpQuiet_nil ?_
 rintro _ ⟨nr,rfl⟩
 have ht2 : ((w.alloc Z34).drewN nr).there w.heap.size 0 ds.toArray.size:=by rw [show ds.toArray.size = 30 by simp [hl]]; exact ht
 have hb0 : Below w.heap.size w ((w.alloc Z34).drewN nr):=((Below.refl w.heap.size w).alloc (Nat.le_refl _) _).trans ((zeP _ nr).mono (by simp))
 generalize (w.alloc Z34).drewN nr = W at ht2 hb0 ⊢
 repeat (first
  | (refine wpList_store_mid rfl 34 _ _ rfl w.heap.size 0 ds.toArray rfl rfl ht2 hinf h1 ?_)
  | go_values | go_skip | go_guarded | go_step | go_upon | go_back)
 have hu34 : Tryz.prog.underlying 34 = some (.struct _):=Tryz.underlying34
 have hr:=World.rangeAt_setCells_same W w.heap.size 0 ds (by rw [show ds.length = ds.toArray.size by simp]; exact ht2)
 have hres:=run_loadVar_mid (W.setCells w.heap.size 0 ds) w.heap.size 0 34 ds _ hr hu34 rfl (by rw [hl]; exact Tryz.info34)
 exact bodyPost_ret (v:=.agg ds.toArray) (zcM Tryz.results86 _ ⟨w.heap.size,0,none⟩ rfl hres) rfl ⟨rfl,zam ds 0 hb0 (Nat.le_refl _)⟩
theorem za5 (w : World) (a b : Obj) (cs : Array Value) (t : TypeId) (j : Nat) : (((w.alloc a).alloc b).alloc (.cells cs t)).cell? ⟨w.heap.size + 1 + 1,j,none⟩ = cs[j]?:=by
 have h:=World.cell?_alloc_new (w:=(w.alloc a).alloc b) cs t j
 rw [show ((w.alloc a).alloc b).heap.size = w.heap.size + 1 + 1 by simp] at h
 exact h
theorem zcp (w : World) (a c : Obj) (cs : Array Value) (t : TypeId) (j : Nat) : (((w.alloc a).alloc (.cells cs t)).alloc c).cell? ⟨w.heap.size + 1,j,none⟩ = cs[j]?:=by
 have h:=World.cell?_alloc_new (w:=w.alloc a) cs t j
 rw [show (w.alloc a).heap.size = w.heap.size + 1 by simp] at h
 rw [← h]
 exact World.cell?_of_block (w:=(w.alloc a).alloc (.cells cs t)) (((Below.refl ((w.alloc a).alloc (.cells cs t)).heap.size ((w.alloc a).alloc (.cells cs t))).alloc (Nat.le_refl _) c).block (w.heap.size + 1) (by simp))
theorem zaY (w : World) (b c : Obj) (cs : Array Value) (t : TypeId) (j : Nat) : (((w.alloc (.cells cs t)).alloc b).alloc c).cell? ⟨w.heap.size,j,none⟩ = cs[j]?:=by
 have h:=World.cell?_alloc_new (w:=w) cs t j
 rw [← h]
 exact World.cell?_of_block (w:=w.alloc (.cells cs t)) ((((Below.refl (w.alloc (.cells cs t)).heap.size (w.alloc (.cells cs t))).alloc (Nat.le_refl _) b).alloc (by simp) c).block w.heap.size (by simp))
theorem zap {w w' : World} (hb : Below w.heap.size w w') {p : Addr} {v : Value} (h : w.cell? p = some v) : w'.cell? p = some v:=(hb.cell (World.block_lt_of_cell? w p h)).trans h
theorem zri (w : World) (ao bo : Option Addr) (n1 c1 n2 c2 pm : Nat) (sort line a b c n k to : Int) (nm : ByteArray)
  (hlab : ∀ W,Below w.heap.size w W → Calls Tryz.prog 108 #[.agg #[.slice ao n1 c1,.map (some pm),.slice bo n2 c2],.string nm,.int .i64 k] W fun e w' => e = .returned (.int .i64 to) ∧ Below W.heap.size W w') :
  Calls Tryz.prog 81 #[.agg #[.slice ao n1 c1,.map (some pm),.slice bo n2 c2],stm sort line ⟨#[108,101,115,115]⟩ a b c n nm,.int .i64 k] w fun e w' => e = .returned (.iface 187 (.agg #[.int .i64 a,.int .i64 b,.int .i64 to])) ∧ Below w.heap.size w w':=by
 have hrb : ∀ W,(Instr.build 187 #[(0,.int .i64 a),(1,.int .i64 b),(2,.int .i64 to)]).run Tryz.prog W = .ok (.agg #[.int .i64 a,.int .i64 b,.int .i64 to]) W:=fun W => run_build W 187 _ _ (by kernel_rfl)
 have hB : Below w.heap.size w (((w.alloc (.cells #[.slice ao n1 c1,.map (some pm),.slice bo n2 c2] 128)).alloc (.cells #[.int .i64 sort,.int .i64 line,.string ⟨#[108,101,115,115]⟩,.int .i64 a,.int .i64 b,.int .i64 c,.int .i64 n,.string nm] 135)).alloc (.cells #[.int .i64 a,.int .i64 b,.int .i64 c] 133)):=zaB
 go_enter Tryz.func81,Tryz.ntmps81
 go_wp2_with fail
 go_region_held3 (fun W => Below w.heap.size w W ∧ W.cell? ⟨w.heap.size,0,none⟩ = some (.slice ao n1 c1) ∧ W.cell? ⟨w.heap.size,1,none⟩ = some (.map (some pm)) ∧ W.cell? ⟨w.heap.size,2,none⟩ = some (.slice bo n2 c2) ∧
   W.cell? ⟨w.heap.size + 1,7,none⟩ = some (.string nm) ∧ W.cell? ⟨w.heap.size + 1 + 1,0,none⟩ = some (.int .i64 a) ∧ W.cell? ⟨w.heap.size + 1 + 1,1,none⟩ = some (.int .i64 b))
  (first
    | (refine ⟨hB.drew,zaY _ _ _ _ _ 0,zaY _ _ _ _ _ 1,zaY _ _ _ _ _ 2,zcp _ _ _ _ _ 7,za5 _ _ _ _ _ 0,za5 _ _ _ _ _ 1⟩)
    | go_keep
    | (refine ⟨hB.drew.trans (hb2.mono hB.drew.size),zap hb2 (zaY _ _ _ _ _ 0),zap hb2 (zaY _ _ _ _ _ 1),zap hb2 (zaY _ _ _ _ _ 2),zap hb2 (zcp _ _ _ _ _ 7),zap hb2 (za5 _ _ _ _ _ 0),zap hb2 (za5 _ _ _ _ _ 1)⟩))
  ((go_at_call 108; refine (hlab _ hB.drew).mono ?_; rintro e w2 ⟨rfl,hb2⟩))
 go_wp2
 go_ret
 exact ⟨rfl,hB.drew.trans (hb2.mono hB.drew.size)⟩
theorem zrj (w : World) (ao bo : Option Addr) (n1 c1 n2 c2 pm : Nat) (sort line a b c n k to : Int) (nm : ByteArray)
  (hlab : ∀ W,Below w.heap.size w W → Calls Tryz.prog 108 #[.agg #[.slice ao n1 c1,.map (some pm),.slice bo n2 c2],.string nm,.int .i64 k] W fun e w' => e = .returned (.int .i64 to) ∧ Below W.heap.size W w') :
  Calls Tryz.prog 81 #[.agg #[.slice ao n1 c1,.map (some pm),.slice bo n2 c2],stm sort line ⟨#[115,97,109,101]⟩ a b c n nm,.int .i64 k] w fun e w' => e = .returned (.iface 188 (.agg #[.int .i64 a,.int .i64 b,.int .i64 to])) ∧ Below w.heap.size w w':=by
 have hrb : ∀ W,(Instr.build 188 #[(0,.int .i64 a),(1,.int .i64 b),(2,.int .i64 to)]).run Tryz.prog W = .ok (.agg #[.int .i64 a,.int .i64 b,.int .i64 to]) W:=fun W => run_build W 188 _ _ (by kernel_rfl)
 have hB : Below w.heap.size w (((w.alloc (.cells #[.slice ao n1 c1,.map (some pm),.slice bo n2 c2] 128)).alloc (.cells #[.int .i64 sort,.int .i64 line,.string ⟨#[115,97,109,101]⟩,.int .i64 a,.int .i64 b,.int .i64 c,.int .i64 n,.string nm] 135)).alloc (.cells #[.int .i64 a,.int .i64 b,.int .i64 c] 133)):=zaB
 go_enter Tryz.func81,Tryz.ntmps81
 go_wp2_with fail
 go_region_held3 (fun W => Below w.heap.size w W ∧ W.cell? ⟨w.heap.size,0,none⟩ = some (.slice ao n1 c1) ∧ W.cell? ⟨w.heap.size,1,none⟩ = some (.map (some pm)) ∧ W.cell? ⟨w.heap.size,2,none⟩ = some (.slice bo n2 c2) ∧
   W.cell? ⟨w.heap.size + 1,7,none⟩ = some (.string nm) ∧ W.cell? ⟨w.heap.size + 1 + 1,0,none⟩ = some (.int .i64 a) ∧ W.cell? ⟨w.heap.size + 1 + 1,1,none⟩ = some (.int .i64 b))
  (first
    | (refine ⟨hB.drew,zaY _ _ _ _ _ 0,zaY _ _ _ _ _ 1,zaY _ _ _ _ _ 2,zcp _ _ _ _ _ 7,za5 _ _ _ _ _ 0,za5 _ _ _ _ _ 1⟩)
    | go_keep
    | (refine ⟨hB.drew.trans (hb2.mono hB.drew.size),zap hb2 (zaY _ _ _ _ _ 0),zap hb2 (zaY _ _ _ _ _ 1),zap hb2 (zaY _ _ _ _ _ 2),zap hb2 (zcp _ _ _ _ _ 7),zap hb2 (za5 _ _ _ _ _ 0),zap hb2 (za5 _ _ _ _ _ 1)⟩))
  ((go_at_call 108; refine (hlab _ hB.drew).mono ?_; rintro e w2 ⟨rfl,hb2⟩))
 go_wp2
 go_ret
 exact ⟨rfl,hB.drew.trans (hb2.mono hB.drew.size)⟩
end Go.Proofs.YtfpgjkbjbbgciaaGreatDoor
