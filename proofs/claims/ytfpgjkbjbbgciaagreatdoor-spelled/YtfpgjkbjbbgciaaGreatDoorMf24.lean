import Derived.Test.YtfpgjkbjbbgciaaGreatDoorMf23
set_option maxRecDepth 100000
set_option maxHeartbeats 8000000
namespace Go.Proofs.YtfpgjkbjbbgciaaGreatDoor
open Go.RowKit Sp
theorem zd8 {P : Program} {o : Oper} {a : Act} {W : World} {K : Act → Prop} (ty : TypeId) (x : Operand) (ho : o.op = .load ty x) (b f : Nat) (hx : a.eval x = .pointer (some ⟨b,f,none⟩)) (cs : List Value) (d : TypeDesc) (hc : W.rangeAt b f cs)
  (hu : P.underlying ty = some d) (hd : d.isRow = true) (hi : (P.info? ty).map (·.size) = some cs.length) (h : K (a.put o.dst (.agg cs.toArray))) : o.quiet P a (fun w' => ∃ k,w' = W.drewN k) K:=by
 refine ⟨_,fun w hw => ?_,h⟩
 obtain ⟨k,rfl⟩:=hw
 have hc2 : (W.drewN k).rangeAt b f cs:=hc
 unfold Oper.quietAt execOp
 simp only [ho,hx,Instr.loadAt,Instr.sureAddr,Sem.run_bind,Sem.run_pure,Result.andThen_ok,run_loadVar_mid _ b f ty cs d hc2 hu hd hi]
 exact ⟨rfl,rfl⟩
theorem zex (w : World) (ds : List Value) (t : TypeId) : (w.alloc (.cells ds.toArray t)).rangeAt w.heap.size 0 ds:=by
 intro j v hv
 rw [Nat.zero_add,World.cell?_alloc_new (w:=w) ds.toArray t j,List.getElem?_toArray]
 exact hv
theorem zjJ {w : World} {b o : Nat} {cs : List Value} (h : w.rangeAt b o cs) (x : Obj) (hb : b < w.heap.size) : (w.alloc x).rangeAt b o cs:=by
 intro j v hv
 rw [← h j v hv]
 exact World.cell?_alloc_lt w _ _ hb
theorem SlN.alloc {w : World} {v : Value} {l : List Int} (h : SlN w v l) (x : Obj) : SlN (w.alloc x) v l:=by
 obtain ⟨ao,cap,h1,h3⟩:=h
 refine ⟨ao,cap,h1,fun hp => ?_⟩
 obtain ⟨g,o,e,hc⟩:=h3 hp
 exact ⟨g,o,e,fun j hj => by rw [World.cell?_alloc_some w _ x (by rw [hc j hj]; rfl)]; exact hc j hj⟩
theorem Tryz.info31 : (Tryz.prog.info? 31).map (·.size) = some 8:=by kernel_rfl
theorem Tryz.info32 : (Tryz.prog.info? 32).map (·.size) = some 16:=by kernel_rfl
theorem zrP (x0 x1 x2 x3 x4 x5 x6 x7 : Int) (w : World) : (Op.equalIn 10000 31 (.agg #[.int .i64 x0,.int .i64 x1,.int .i64 x2,.int .i64 x3,.int .i64 x4,.int .i64 x5,.int .i64 x6,.int .i64 x7]) (.agg #[.int .i64 x0,.int .i64 x1,.int .i64 x2,.int .i64 x3,.int .i64 x4,.int .i64 x5,.int .i64 x6,.int .i64 x7])).run Tryz.prog w = .ok true w:=by
 have u2:=Tryz.underlying2
 have a2:=Tryz.isAgg2
 have z2:=Tryz.sizeOf2
 rw [show (10000 : Nat) = 9999 + 1 from rfl,Op.equalIn]
 simp only [Sem.run_bind,run_underlying Tryz.underlying31,Result.andThen_ok]
 simp only [Std.Legacy.Range.forIn_eq_forIn_range',Std.Legacy.Range.size,Nat.sub_zero,Nat.add_sub_cancel,Nat.div_one,List.range'_succ,List.range'_zero,List.forIn_cons,List.forIn_nil]
 go_simp
theorem zrQ (x0 x1 x2 x3 x4 x5 x6 x7 x8 x9 x10 x11 x12 x13 x14 x15 : Int) (w : World) : (Op.equalIn 10000 32 (.agg #[.int .i64 x0,.int .i64 x1,.int .i64 x2,.int .i64 x3,.int .i64 x4,.int .i64 x5,.int .i64 x6,.int .i64 x7,.int .i64 x8,.int .i64 x9,.int .i64 x10,.int .i64 x11,.int .i64 x12,.int .i64 x13,.int .i64 x14,.int .i64 x15]) (.agg #[.int .i64 x0,.int .i64 x1,.int .i64 x2,.int .i64 x3,.int .i64 x4,.int .i64 x5,.int .i64 x6,.int .i64 x7,.int .i64 x8,.int .i64 x9,.int .i64 x10,.int .i64 x11,.int .i64 x12,.int .i64 x13,.int .i64 x14,.int .i64 x15])).run Tryz.prog w = .ok true w:=by
 have u2:=Tryz.underlying2
 have a2:=Tryz.isAgg2
 have z2:=Tryz.sizeOf2
 rw [show (10000 : Nat) = 9999 + 1 from rfl,Op.equalIn]
 simp only [Sem.run_bind,run_underlying Tryz.underlying32,Result.andThen_ok]
 simp only [Std.Legacy.Range.forIn_eq_forIn_range',Std.Legacy.Range.size,Nat.sub_zero,Nat.add_sub_cancel,Nat.div_one,List.range'_succ,List.range'_zero,List.forIn_cons,List.forIn_nil]
 go_simp
structure StAt (w : World) (b : Nat) (m : Mc) (ov : Value) (line : Int) : Prop where
 cS : w.cell? ⟨b,0,none⟩ = some (.int .i64 m.steps)
 cR : w.rangeAt b 1 ((List.range 8).map (fun i => Value.int .i64 (m.regs i)))
 cC : w.rangeAt b 9 ((List.range 16).map (fun i => Value.int .i64 (m.cells i)))
 cO : w.cell? ⟨b,25,none⟩ = some ov
 cF : w.cell? ⟨b,26,none⟩ = some (.int .i64 m.frames)
 cP : w.cell? ⟨b,27,none⟩ = some (.int .i64 m.peak)
 cA : w.cell? ⟨b,28,none⟩ = some (.int .i64 line)
 cE : w.cell? ⟨b,29,none⟩ = some (.int .i64 m.fin)
theorem StAt.of_range {w : World} {b : Nat} {m : Mc} {ov : Value} {line : Int} (h : w.rangeAt b 0 (zai m ov line)) : StAt w b m ov line:=by
 have hx : ∀ j v,(zai m ov line)[j]? = some v → w.cell? ⟨b,j,none⟩ = some v:=fun j v hv => by have:=h j v hv; rwa [Nat.zero_add] at this
 refine ⟨hx 0 _ (by simp [zai]),fun j v hv => ?_,fun j v hv => ?_,hx 25 _ (by simp [zai]),hx 26 _ (by simp [zai]),hx 27 _ (by simp [zai]),hx 28 _ (by simp [zai]),hx 29 _ (by simp [zai])⟩
 ·have hj:=(List.getElem?_eq_some_iff.1 hv).1
  simp at hj
  refine hx (1 + j) v ?_
  rw [← hv]
  unfold zai
  rw [List.getElem?_append_right (by simp),List.getElem?_append_left (by simp; omega)]
  simp
 ·have hj:=(List.getElem?_eq_some_iff.1 hv).1
  simp at hj
  refine hx (9 + j) v ?_
  rw [← hv]
  unfold zai
  rw [List.getElem?_append_right (by simp; omega),List.getElem?_append_right (by simp),List.getElem?_append_left (by simp; omega)]
  simp
theorem zcK {w : World} {a b c : Obj} : Below w.heap.size w (((w.alloc a).alloc b).alloc c):=(((Below.refl _ _).alloc (Nat.le_refl _) _).alloc (by simp) _).alloc (by simp; omega) _
theorem znP (w : World) (ao bo : Option Addr) (n1 c1 n2 c2 pm : Nat) (sort line a b c n k to : Int) (nm : ByteArray)
  (hlab : ∀ W,Below w.heap.size w W → Calls Tryz.prog 108 #[.agg #[.slice ao n1 c1,.map (some pm),.slice bo n2 c2],.string nm,.int .i64 k] W fun e w' => e = .returned (.int .i64 to) ∧ Below W.heap.size W w') :
  Calls Tryz.prog 81 #[.agg #[.slice ao n1 c1,.map (some pm),.slice bo n2 c2],stm sort line ⟨#[106,117,109,112]⟩ a b c n nm,.int .i64 k] w fun e w' => e = .returned (.iface 185 (.agg #[.int .i64 to])) ∧ Below w.heap.size w w':=by
 have hrb : ∀ W,(Instr.build 185 #[(0,.int .i64 to)]).run Tryz.prog W = .ok (.agg #[.int .i64 to]) W:=fun W => run_build W 185 _ _ (by kernel_rfl)
 have hB : Below w.heap.size w (((w.alloc (.cells #[.slice ao n1 c1,.map (some pm),.slice bo n2 c2] 128)).alloc (.cells #[.int .i64 sort,.int .i64 line,.string ⟨#[106,117,109,112]⟩,.int .i64 a,.int .i64 b,.int .i64 c,.int .i64 n,.string nm] 135)).alloc (.cells #[.int .i64 a,.int .i64 b,.int .i64 c] 133)):=zcK
 go_enter Tryz.func81,Tryz.ntmps81
 go_wp2_with (first | (go_at_call 108; refine (hlab _ hB).mono ?_; rintro e w2 ⟨rfl,hb2⟩))
 go_ret
 exact ⟨rfl,hB.trans (hb2.mono hB.size)⟩
theorem znQ (w : World) (ao bo : Option Addr) (n1 c1 n2 c2 pm : Nat) (sort line a b c n k to : Int) (nm : ByteArray)
  (hlab : ∀ W,Below w.heap.size w W → Calls Tryz.prog 109 #[.agg #[.slice ao n1 c1,.map (some pm),.slice bo n2 c2],.string nm] W fun e w' => e = .returned (.int .i64 to) ∧ Below W.heap.size W w') :
  Calls Tryz.prog 81 #[.agg #[.slice ao n1 c1,.map (some pm),.slice bo n2 c2],stm sort line ⟨#[99,97,108,108]⟩ a b c n nm,.int .i64 k] w fun e w' => e = .returned (.iface 190 (.agg #[.int .i64 to])) ∧ Below w.heap.size w w':=by
 have hrb : ∀ W,(Instr.build 190 #[(0,.int .i64 to)]).run Tryz.prog W = .ok (.agg #[.int .i64 to]) W:=fun W => run_build W 190 _ _ (by kernel_rfl)
 have hB : Below w.heap.size w (((w.alloc (.cells #[.slice ao n1 c1,.map (some pm),.slice bo n2 c2] 128)).alloc (.cells #[.int .i64 sort,.int .i64 line,.string ⟨#[99,97,108,108]⟩,.int .i64 a,.int .i64 b,.int .i64 c,.int .i64 n,.string nm] 135)).alloc (.cells #[.int .i64 a,.int .i64 b,.int .i64 c] 133)):=zcK
 go_enter Tryz.func81,Tryz.ntmps81
 go_wp2_with (first | (go_at_call 109; refine (hlab _ hB).mono ?_; rintro e w2 ⟨rfl,hb2⟩))
 go_ret
 exact ⟨rfl,hB.trans (hb2.mono hB.size)⟩
end Go.Proofs.YtfpgjkbjbbgciaaGreatDoor
namespace Go.Proofs.YtfpgjkbjbbgciaaGreatDoor.Sp
theorem zdO {x : List UInt8} (h : (!x.isEmpty && x.all fun c => decide (33 ≤ c.toNat ∧ c.toNat < 127 ∧ ¬ c.toNat = 59)) = true) : Wd x:=by
 rw [Bool.and_eq_true] at h
 refine ⟨fun e => ?_,fun c hc => of_decide_eq_true (List.all_eq_true.1 h.2 c hc)⟩
 rw [e] at h
 exact absurd h.1 (by decide)
theorem zqp (n : Int) : Wd (digL n):=⟨zq4 n,fun c hc => by
 rcases zlg n c hc with e | e
 ·rw [e]; decide
 ·omega⟩
def regW (r : Nat) : List UInt8:=[114,UInt8.ofNat (48 + r)]
theorem zd6 (r : Nat) (h : r < 8) : Wd (regW r):=⟨by simp [regW],fun c hc => by
 rcases List.mem_cons.1 hc with e | e
 ·rw [e]; decide
 ·rw [List.mem_singleton.1 e]
  have : (UInt8.ofNat (48 + r)).toNat = 48 + r:=by simp; omega
  omega⟩
theorem zd7 (r : Nat) (h : r < 8) : opOk 82 (ba (regW r)) = true:=by
 have : reg (ba (regW r)) = (r : Int):=zr5 r h
 unfold opOk
 rw [if_pos rfl,this]; simp
theorem zqq (n : Int) (h : -9223372036854775808 ≤ n) (h' : n ≤ 9223372036854775807) : opOk 75 (ba (digL n)) = true:=by
 unfold opOk
 rw [if_neg (by decide),if_pos rfl,zoF n h h']
theorem blk0 : ∀ c ∈ ([] : List UInt8),c = 32 ∨ c = 9:=fun c hc => by cases hc
end Go.Proofs.YtfpgjkbjbbgciaaGreatDoor.Sp
namespace Go.Proofs.YtfpgjkbjbbgciaaGreatDoor
open Go.RowKit Sp
end Go.Proofs.YtfpgjkbjbbgciaaGreatDoor
namespace Go.Proofs.YtfpgjkbjbbgciaaGreatDoor
open Sp
end Go.Proofs.YtfpgjkbjbbgciaaGreatDoor
namespace Go.Proofs.YtfpgjkbjbbgciaaGreatDoor
open Go.RowKit Sp
section
end
end Go.Proofs.YtfpgjkbjbbgciaaGreatDoor
