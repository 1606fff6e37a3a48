import Derived.Test.YtfpgjkbjbbgciaaGreatDoorMd23
import Derived.Test.YtfpgjkbjbbgciaaGreatDoorMd24
import Derived.Great.Ranges
import Derived.Laws.Tables
set_option maxRecDepth 100000
set_option maxHeartbeats 8000000
namespace Go.Proofs.YtfpgjkbjbbgciaaGreatDoor
open Go.RowKit Sp
theorem zfg{P:Program}{o:Oper}{a:Act}{W:World}{K:Act→Prop}(ty:TypeId)(x:Operand)(ho:o.op=.load ty x)(b f:Nat)(hx:a.eval x=.pointer (some ⟨b,f,none⟩))(cs:List Value)(d:TypeDesc)(hc:W.rangeAt b f cs)
  (hu:P.underlying ty=some d) (hd:d.isRow=true) (hi:(P.info? ty).map (·.size)=some cs.length) (h:K (a.put o.dst (.agg cs.toArray))):o.quiet P a (fun w'=>∃ k,w'=W.drewN k) K:=by
 refine⟨_,fun w hw=>?_,h⟩
 obtain⟨k,rfl⟩:=hw
 have hc2:(W.drewN k).rangeAt b f cs:=hc
 unfold Oper.quietAt execOp
 simp only [ho,hx,Instr.loadAt,Instr.sureAddr,Sem.run_bind,Sem.run_pure,Result.andThen_ok,run_loadVar_mid _ b f ty cs d hc2 hu hd hi]
 exact⟨rfl,rfl⟩
theorem ze7(w:World)(ds:List Value)(t:TypeId):(w.alloc (.cells ds.toArray t)).rangeAt w.heap.size 0 ds:=by
 intro j v hv
 rw [Nat.zero_add,World.cell?_alloc_new (w:=w) ds.toArray t j,List.getElem?_toArray]
 exact hv
theorem zmZ{w:World}{b o:Nat}{cs:List Value}(h:w.rangeAt b o cs)(x:Obj)(hb:b<w.heap.size):(w.alloc x).rangeAt b o cs:=by
 intro j v hv
 rw [←h j v hv]
 exact World.cell?_alloc_lt w _ _ hb
theorem SlN.alloc{w:World}{v:Value}{l:List Int}(h:SlN w v l)(x:Obj):SlN (w.alloc x) v l:=by
 obtain⟨ao,cap,h1,h3⟩:=h
 refine⟨ao,cap,h1,fun hp=>?_⟩
 obtain⟨g,o,e,hc⟩:=h3 hp
 exact⟨g,o,e,fun j hj=>by rw [World.cell?_alloc_some w _ x (by rw [hc j hj];rfl)];exact hc j hj⟩
theorem Tryz.info31:(Tryz.prog.info? 31).map (·.size)=some 8:=by kernel_rfl
theorem Tryz.info32:(Tryz.prog.info? 32).map (·.size)=some 16:=by kernel_rfl
theorem zym(x0 x1 x2 x3 x4 x5 x6 x7:Int)(w:World):(Op.equalIn 10000 31 (.agg #[.int .i64 x0,.int .i64 x1,.int .i64 x2,.int .i64 x3,.int .i64 x4,.int .i64 x5,.int .i64 x6,.int .i64 x7]) (.agg #[.int .i64 x0,.int .i64 x1,.int .i64 x2,.int .i64 x3,.int .i64 x4,.int .i64 x5,.int .i64 x6,.int .i64 x7])).run Tryz.prog w=.ok true w:=by
 have u2:=Tryz.underlying2
 have a2:=Tryz.isAgg2
 have z2:=Tryz.sizeOf2
 rw [show(10000:Nat)=9999+1 from rfl,Op.equalIn]
 simp only [Sem.run_bind,run_underlying Tryz.underlying31,Result.andThen_ok]
 simp only [Std.Legacy.Range.forIn_eq_forIn_range',Std.Legacy.Range.size,Nat.sub_zero,Nat.add_sub_cancel,Nat.div_one,List.range'_succ,List.range'_zero,List.forIn_cons,List.forIn_nil]
 go_simp
theorem zyn(x0 x1 x2 x3 x4 x5 x6 x7 x8 x9 x10 x11 x12 x13 x14 x15:Int)(w:World):(Op.equalIn 10000 32 (.agg #[.int .i64 x0,.int .i64 x1,.int .i64 x2,.int .i64 x3,.int .i64 x4,.int .i64 x5,.int .i64 x6,.int .i64 x7,.int .i64 x8,.int .i64 x9,.int .i64 x10,.int .i64 x11,.int .i64 x12,.int .i64 x13,.int .i64 x14,.int .i64 x15]) (.agg #[.int .i64 x0,.int .i64 x1,.int .i64 x2,.int .i64 x3,.int .i64 x4,.int .i64 x5,.int .i64 x6,.int .i64 x7,.int .i64 x8,.int .i64 x9,.int .i64 x10,.int .i64 x11,.int .i64 x12,.int .i64 x13,.int .i64 x14,.int .i64 x15])).run Tryz.prog w=.ok true w:=by
 have u2:=Tryz.underlying2
 have a2:=Tryz.isAgg2
 have z2:=Tryz.sizeOf2
 rw [show(10000:Nat)=9999+1 from rfl,Op.equalIn]
 simp only [Sem.run_bind,run_underlying Tryz.underlying32,Result.andThen_ok]
 simp only [Std.Legacy.Range.forIn_eq_forIn_range',Std.Legacy.Range.size,Nat.sub_zero,Nat.add_sub_cancel,Nat.div_one,List.range'_succ,List.range'_zero,List.forIn_cons,List.forIn_nil]
 go_simp
structure StAt(w:World)(b:Nat)(m:Mc)(ov:Value)(line:Int):Prop where
 cS:w.cell? ⟨b,0,none⟩=some (.int .i64 m.steps)
 cR:w.rangeAt b 1 ((List.range 8).map (fun i=>Value.int .i64 (m.regs i)))
 cC:w.rangeAt b 9 ((List.range 16).map (fun i=>Value.int .i64 (m.cells i)))
 cO:w.cell? ⟨b,25,none⟩=some ov
 cF:w.cell? ⟨b,26,none⟩=some (.int .i64 m.frames)
 cP:w.cell? ⟨b,27,none⟩=some (.int .i64 m.peak)
 cA:w.cell? ⟨b,28,none⟩=some (.int .i64 line)
 cE:w.cell? ⟨b,29,none⟩=some (.int .i64 m.fin)
theorem StAt.of_range{w:World}{b:Nat}{m:Mc}{ov:Value}{line:Int}(h:w.rangeAt b 0 (zav m ov line)):StAt w b m ov line:=by
 have hx:∀ j v,(zav m ov line)[j]?=some v→w.cell? ⟨b,j,none⟩=some v:=fun j v hv=>by have:=h j v hv;rwa [Nat.zero_add] at this
 refine⟨hx 0 _ (by simp [zav]),fun j v hv=>?_,fun j v hv=>?_,hx 25 _ (by simp [zav]),hx 26 _ (by simp [zav]),hx 27 _ (by simp [zav]),hx 28 _ (by simp [zav]),hx 29 _ (by simp [zav])⟩
 ·have hj:=(List.getElem?_eq_some_iff.1 hv).1
  simp at hj
  refine hx (1+j) v ?_
  rw [←hv]
  unfold zav
  rw [List.getElem?_append_right (by simp),List.getElem?_append_left (by simp;omega)]
  simp
 ·have hj:=(List.getElem?_eq_some_iff.1 hv).1
  simp at hj
  refine hx (9+j) v ?_
  rw [←hv]
  unfold zav
  rw [List.getElem?_append_right (by simp;omega),List.getElem?_append_right (by simp),List.getElem?_append_left (by simp;omega)]
  simp
theorem zjm(w:World)(m:Mc)(oa ob:Option Addr)(na nb ca cb:Nat)(line:Int)(ha:SlN w (.slice oa na ca) m.out)(hb:SlN w (.slice ob nb cb) m.out)(hn:m.out.length≤1048577):
  Calls Tryz.prog 21 #[.agg (zav m (.slice oa na ca) line).toArray,.agg (zav m (.slice ob nb cb) line).toArray] w fun e w'=>e=.returned (.bool true)∧Below w.heap.size w w':=by
 generalize hA:zav m (.slice oa na ca) line=A
 generalize hB:zav m (.slice ob nb cb) line=B
 have hu31:Tryz.prog.underlying 31=some (.array _ _):=Tryz.underlying31
 have hu32:Tryz.prog.underlying 32=some (.array _ _):=Tryz.underlying32
 go_enter Tryz.func21,Tryz.ntmps21
 go_wp2_with(first|(refine Go.Great.wpList_boxTo rfl 34 _ rfl _ rfl w.heap.size rfl A.toArray rfl ?_)|(refine Go.Great.wpList_boxTo rfl 34 _ rfl _ rfl (w.heap.size+1) (by simp) B.toArray rfl ?_;refine Hid.out ?_))
 unfold Hid
 have r1:((w.alloc (.cells A.toArray 34)).alloc (.cells B.toArray 34)).rangeAt w.heap.size 0 A:=zmZ (ze7 w A 34) _ (by simp)
 have r2:((w.alloc (.cells A.toArray 34)).alloc (.cells B.toArray 34)).rangeAt (w.heap.size+1) 0 B:=by
  have:=ze7 (w.alloc (.cells A.toArray 34)) B 34
  rwa [show(w.alloc (.cells A.toArray 34)).heap.size=w.heap.size+1 by simp] at this
 have hlow:Below w.heap.size w ((w.alloc (.cells A.toArray 34)).alloc (.cells B.toArray 34)):=((Below.refl _ _).alloc (Nat.le_refl _) _).alloc (by simp) _
 have ha2:=SlN.alloc (SlN.alloc ha (.cells A.toArray 34)) (.cells B.toArray 34)
 have hb2:=SlN.alloc (SlN.alloc hb (.cells A.toArray 34)) (.cells B.toArray 34)
 generalize ((w.alloc (.cells A.toArray 34)).alloc (.cells B.toArray 34))=W at r1 r2 hlow ha2 hb2 ⊢
 rw [←hA] at r1
 rw [←hB] at r2
 obtain⟨a1,a2,a3,a4,a5,a6,a7,a8⟩:=StAt.of_range r1
 obtain⟨b1,b2,b3,b4,b5,b6,b7,b8⟩:=StAt.of_range r2
 clear r1 r2 hA hB
 have hcall:=zgM W _ _ _ ha2 hb2 hn
 have wa:∀ i,i<8→W.cell? ⟨w.heap.size,1+i,none⟩=some (.int .i64 (m.regs i)):=fun i hi=>a2 i _ (by simp [hi])
 have wb:∀ i,i<8→W.cell? ⟨w.heap.size+1,1+i,none⟩=some (.int .i64 (m.regs i)):=fun i hi=>b2 i _ (by simp [hi])
 have xa:∀ i,i<16→W.cell? ⟨w.heap.size,9+i,none⟩=some (.int .i64 (m.cells i)):=fun i hi=>a3 i _ (by simp [hi])
 have xb:∀ i,i<16→W.cell? ⟨w.heap.size+1,9+i,none⟩=some (.int .i64 (m.cells i)):=fun i hi=>b3 i _ (by simp [hi])
 have wa0:W.cell? ⟨w.heap.size,1,none⟩=some (.int .i64 (m.regs 0)):=wa 0 (by omega)
 have wb0:W.cell? ⟨w.heap.size+1,1,none⟩=some (.int .i64 (m.regs 0)):=wb 0 (by omega)
 have wa1:W.cell? ⟨w.heap.size,2,none⟩=some (.int .i64 (m.regs 1)):=wa 1 (by omega)
 have wb1:W.cell? ⟨w.heap.size+1,2,none⟩=some (.int .i64 (m.regs 1)):=wb 1 (by omega)
 have wa2:W.cell? ⟨w.heap.size,3,none⟩=some (.int .i64 (m.regs 2)):=wa 2 (by omega)
 have wb2:W.cell? ⟨w.heap.size+1,3,none⟩=some (.int .i64 (m.regs 2)):=wb 2 (by omega)
 have wa3:W.cell? ⟨w.heap.size,4,none⟩=some (.int .i64 (m.regs 3)):=wa 3 (by omega)
 have wb3:W.cell? ⟨w.heap.size+1,4,none⟩=some (.int .i64 (m.regs 3)):=wb 3 (by omega)
 have wa4:W.cell? ⟨w.heap.size,5,none⟩=some (.int .i64 (m.regs 4)):=wa 4 (by omega)
 have wb4:W.cell? ⟨w.heap.size+1,5,none⟩=some (.int .i64 (m.regs 4)):=wb 4 (by omega)
 have wa5:W.cell? ⟨w.heap.size,6,none⟩=some (.int .i64 (m.regs 5)):=wa 5 (by omega)
 have wb5:W.cell? ⟨w.heap.size+1,6,none⟩=some (.int .i64 (m.regs 5)):=wb 5 (by omega)
 have wa6:W.cell? ⟨w.heap.size,7,none⟩=some (.int .i64 (m.regs 6)):=wa 6 (by omega)
 have wb6:W.cell? ⟨w.heap.size+1,7,none⟩=some (.int .i64 (m.regs 6)):=wb 6 (by omega)
 have wa7:W.cell? ⟨w.heap.size,8,none⟩=some (.int .i64 (m.regs 7)):=wa 7 (by omega)
 have wb7:W.cell? ⟨w.heap.size+1,8,none⟩=some (.int .i64 (m.regs 7)):=wb 7 (by omega)
 have xa0:W.cell? ⟨w.heap.size,9,none⟩=some (.int .i64 (m.cells 0)):=xa 0 (by omega)
 have xb0:W.cell? ⟨w.heap.size+1,9,none⟩=some (.int .i64 (m.cells 0)):=xb 0 (by omega)
 have xa1:W.cell? ⟨w.heap.size,10,none⟩=some (.int .i64 (m.cells 1)):=xa 1 (by omega)
 have xb1:W.cell? ⟨w.heap.size+1,10,none⟩=some (.int .i64 (m.cells 1)):=xb 1 (by omega)
 have xa2:W.cell? ⟨w.heap.size,11,none⟩=some (.int .i64 (m.cells 2)):=xa 2 (by omega)
 have xb2:W.cell? ⟨w.heap.size+1,11,none⟩=some (.int .i64 (m.cells 2)):=xb 2 (by omega)
 have xa3:W.cell? ⟨w.heap.size,12,none⟩=some (.int .i64 (m.cells 3)):=xa 3 (by omega)
 have xb3:W.cell? ⟨w.heap.size+1,12,none⟩=some (.int .i64 (m.cells 3)):=xb 3 (by omega)
 have xa4:W.cell? ⟨w.heap.size,13,none⟩=some (.int .i64 (m.cells 4)):=xa 4 (by omega)
 have xb4:W.cell? ⟨w.heap.size+1,13,none⟩=some (.int .i64 (m.cells 4)):=xb 4 (by omega)
 have xa5:W.cell? ⟨w.heap.size,14,none⟩=some (.int .i64 (m.cells 5)):=xa 5 (by omega)
 have xb5:W.cell? ⟨w.heap.size+1,14,none⟩=some (.int .i64 (m.cells 5)):=xb 5 (by omega)
 have xa6:W.cell? ⟨w.heap.size,15,none⟩=some (.int .i64 (m.cells 6)):=xa 6 (by omega)
 have xb6:W.cell? ⟨w.heap.size+1,15,none⟩=some (.int .i64 (m.cells 6)):=xb 6 (by omega)
 have xa7:W.cell? ⟨w.heap.size,16,none⟩=some (.int .i64 (m.cells 7)):=xa 7 (by omega)
 have xb7:W.cell? ⟨w.heap.size+1,16,none⟩=some (.int .i64 (m.cells 7)):=xb 7 (by omega)
 have xa8:W.cell? ⟨w.heap.size,17,none⟩=some (.int .i64 (m.cells 8)):=xa 8 (by omega)
 have xb8:W.cell? ⟨w.heap.size+1,17,none⟩=some (.int .i64 (m.cells 8)):=xb 8 (by omega)
 have xa9:W.cell? ⟨w.heap.size,18,none⟩=some (.int .i64 (m.cells 9)):=xa 9 (by omega)
 have xb9:W.cell? ⟨w.heap.size+1,18,none⟩=some (.int .i64 (m.cells 9)):=xb 9 (by omega)
 have xa10:W.cell? ⟨w.heap.size,19,none⟩=some (.int .i64 (m.cells 10)):=xa 10 (by omega)
 have xb10:W.cell? ⟨w.heap.size+1,19,none⟩=some (.int .i64 (m.cells 10)):=xb 10 (by omega)
 have xa11:W.cell? ⟨w.heap.size,20,none⟩=some (.int .i64 (m.cells 11)):=xa 11 (by omega)
 have xb11:W.cell? ⟨w.heap.size+1,20,none⟩=some (.int .i64 (m.cells 11)):=xb 11 (by omega)
 have xa12:W.cell? ⟨w.heap.size,21,none⟩=some (.int .i64 (m.cells 12)):=xa 12 (by omega)
 have xb12:W.cell? ⟨w.heap.size+1,21,none⟩=some (.int .i64 (m.cells 12)):=xb 12 (by omega)
 have xa13:W.cell? ⟨w.heap.size,22,none⟩=some (.int .i64 (m.cells 13)):=xa 13 (by omega)
 have xb13:W.cell? ⟨w.heap.size+1,22,none⟩=some (.int .i64 (m.cells 13)):=xb 13 (by omega)
 have xa14:W.cell? ⟨w.heap.size,23,none⟩=some (.int .i64 (m.cells 14)):=xa 14 (by omega)
 have xb14:W.cell? ⟨w.heap.size+1,23,none⟩=some (.int .i64 (m.cells 14)):=xb 14 (by omega)
 have xa15:W.cell? ⟨w.heap.size,24,none⟩=some (.int .i64 (m.cells 15)):=xa 15 (by omega)
 have xb15:W.cell? ⟨w.heap.size+1,24,none⟩=some (.int .i64 (m.cells 15)):=xb 15 (by omega)
 have e31:=fun w=>zym (m.regs 0) (m.regs 1) (m.regs 2) (m.regs 3) (m.regs 4) (m.regs 5) (m.regs 6) (m.regs 7) w
 have e32:=fun w=>zyn (m.cells 0) (m.cells 1) (m.cells 2) (m.cells 3) (m.cells 4) (m.cells 5) (m.cells 6) (m.cells 7) (m.cells 8) (m.cells 9) (m.cells 10) (m.cells 11) (m.cells 12) (m.cells 13) (m.cells 14) (m.cells 15) w
 clear wa wb xa xb a2 a3 b2 b3 ha hb ha2 hb2
 generalize m.regs 0=r0 at *;generalize m.regs 1=r1 at *;generalize m.regs 2=r2 at *;generalize m.regs 3=r3 at *;generalize m.regs 4=r4 at *;generalize m.regs 5=r5 at *;generalize m.regs 6=r6 at *;generalize m.regs 7=r7 at *
 generalize m.cells 0=c0 at *;generalize m.cells 1=c1 at *;generalize m.cells 2=c2 at *;generalize m.cells 3=c3 at *;generalize m.cells 4=c4 at *;generalize m.cells 5=c5 at *;generalize m.cells 6=c6 at *;generalize m.cells 7=c7 at *;generalize m.cells 8=c8 at *;generalize m.cells 9=c9 at *;generalize m.cells 10=c10 at *;generalize m.cells 11=c11 at *;generalize m.cells 12=c12 at *;generalize m.cells 13=c13 at *;generalize m.cells 14=c14 at *;generalize m.cells 15=c15 at *
 go_wp2_with(first|(go_at_call 19;refine hcall.mono ?_;rintro e w2 ⟨rfl,n,rfl⟩))
 go_ret
 exact⟨rfl,hlow.trans ((zaN W n).mono hlow.size)⟩
end Go.Proofs.YtfpgjkbjbbgciaaGreatDoor
namespace Go.Proofs.YtfpgjkbjbbgciaaGreatDoor
open Go.RowKit Sp Go.WideMaps Go.Maps
theorem zs9{E:List (ByteArray × Nat)}(hpw:E.Pairwise (fun a b=>eqW a.1 b.1=false)){left:Lit→Bool}{x:ByteArray}{p n:Nat}(hf:zbO E x=some p)(hp:¬p=n)(h:∀ q∈E,left (.string q.1.data.toList)=false→¬q.2=n):
  ∀ q∈E,(left (.string q.1.data.toList)&&!(Lit.string q.1.data.toList).sameKey (.string x.data.toList))=false→¬q.2=n:=by
 intro q hq hl
 rw [Bool.and_eq_false_iff] at hl
 rcases hl with hl|hl
 ·exact h q hq hl
 ·have e:q.1.data.toList=x.data.toList:=by
   have:=WideAt.sameKey_eq (show(Lit.string q.1.data.toList).sameKey (.string x.data.toList)=true by simpa using hl)
   simpa using this
  rw [zp7 E hpw x p hf q hq ((zeb _ _).2 e)]
  exact hp
theorem zsA(w:World)(B m:Nat)(name:ByteArray)(line:Int)(bv:Value)(E:List (ByteArray × Nat))(its:List It)(hM:MapIs w m E)(hbo:w.ownsRow B 135 8 bv its.length (za0 its))(hn:its.length≤300):
  Calls Tryz.prog 105 #[.agg #[.string name,.int .i64 line,bv,.map (some m)]] w fun e w'=>e=.returned (.bool (E.all (fun p=>!decide (p.2=its.length))&&zed its))∧Below w.heap.size w w':=by
 obtain⟨D,hown,hD,hhas,hat0,hpw⟩:=hM
 have hlt:=hown.lt
 obtain⟨ao,capb,rfl⟩:=zb8 hbo
 have hne:¬w.heap.size=m:=by omega
 have hbox:(w.alloc (.cells #[.string name,.int .i64 line,.slice ao its.length capb,.map (some m)] 131)).cell? ⟨w.heap.size,2,none⟩=some (.slice ao its.length capb):=World.cell?_alloc_new (w:=w) #[.string name,.int .i64 line,.slice ao its.length capb,.map (some m)] 131 2
 have hb0:Below w.heap.size w (w.alloc (.cells #[.string name,.int .i64 line,.slice ao its.length capb,.map (some m)] 131)):=(Below.refl _ _).alloc (Nat.le_refl _) _
 have hsz0:(w.alloc (.cells #[.string name,.int .i64 line,.slice ao its.length capb,.map (some m)] 131)).heap.size=w.heap.size+1:=by simp
 go_enter Tryz.func105,Tryz.ntmps105
 go_wp2_with(first
  | (at_range;refine wpList_range_own _ rfl _ 81 rfl 9 3 lawS Tryz.under81 _ m E.length _ rfl (hown.alloc _) ?_;intro w0 hrg0 hg0 hs0))
 rw [hsz0] at hrg0 hs0 ⊢
 generalize w.alloc (.cells #[.string name,.int .i64 line,.slice ao its.length capb,.map (some m)] 131)=W1 at hbox hb0 hsz0 hg0
 have hbx:w0.cell? ⟨w.heap.size,2,none⟩=some (.slice ao its.length capb):=(hg0.cell_far _ (by simp;omega) (by simp)).trans hbox
 have hb1:Below w.heap.size w w0:=hb0.trans (((Below.refl w.heap.size W1).grown hg0 (by omega) (fun j hj=>by cases hj)))
 go_frame
 go_loopw [4] (fun _ wr=>∃(left:Lit→Bool) (cnt:Nat),wr.ranges Tryz.prog 9 (plainElem Tryz.prog 3) m (w.heap.size+1) E.length D left cnt∧w0.grownBy wr (some (w.heap.size+1))∧(∀ p∈E,left (.string p.1.data.toList)=false→¬p.2=its.length))
  (fun _ wr=>wr.rangeLeft m (w.heap.size+1))
 case atStart =>
  refine⟨_,_,hrg0,⟨rfl,rfl,rfl,Nat.le_refl _,fun _ _ _=>rfl⟩,fun p hp hl=>?_⟩
  rw [hhas p.1,List.any_eq_false] at hl
  have:=hl p.1 (List.mem_map_of_mem hp)
  rw [(zeb _ _).2 rfl] at this
  simp at this
 case round =>
  obtain⟨left,cnt,hrg,hgw,hno⟩:=hrel
  have hbr:wr.cell? ⟨w.heap.size,2,none⟩=some (.slice ao its.length capb):=(hgw.cell_far _ (by simp;omega) (by simp)).trans hbx
  have hbw:Below w.heap.size w wr:=hb1.trans ((Below.refl w.heap.size w0).grown hgw (by omega) (fun j hj=>by cases hj;omega))
  go_wp2_with(first
   | (at_next;refine wpList_next_ranges _ rfl _ rfl 9 lawS (plainElem Tryz.prog 3) Value.string (Value.int .i64) (fun key kl hk=>by obtain⟨x,hx,_⟩:=string_of_keyOf Tryz.underlying9 hk;exact⟨x,hx⟩) (fun v y hv=>by obtain⟨c,rfl,_⟩:=plainElem_int_inv Tryz.underlying3 hv;exact⟨c,rfl⟩) m (w.heap.size+1) E.length _ _ _ rfl hrg ?_ ?_))
  ·intro _ hl0
   have HA:Hid (E.all (fun p=>!decide (p.2=its.length))=true):=zmL E _ (fun p hp=>hno p hp (hl0 _))
   clear hl0 hno hrg hgw hhas hat0 hpw hown hD
   rcases List.eq_nil_or_concat its with rfl|⟨I,i,hI⟩
   ·simp only [List.length_nil] at hbr
    go_wp2
    go_ret
    exact⟨by simp [zed],hbw⟩
   ·rw [List.concat_eq_append] at hI
    subst hI
    obtain⟨bg,capb',hbv,_,hbg,hst⟩:=zgr hbo (by simp)
    simp only [Value.slice.injEq,true_and] at hbv
    obtain⟨rfl,rfl⟩:=hbv
    have hs:=hst I.length (by simp)
    have hil:(I++[i]).length=I.length+1:=by simp
    rw [hil] at hbr hn
    simp only [List.getElem_append_right (Nat.le_refl _),Nat.sub_self,List.getElem_cons_zero] at hs
    obtain⟨d0,d1,d2,d3,d4,d5,d6,d7⟩:=hs
    have z:∀ j,wr.cell? ⟨bg,j,none⟩=w.cell? ⟨bg,j,none⟩:=fun j=>hbw.cell (p:=⟨bg,j,none⟩) hbg
    rw [←z] at d0 d1 d2 d3 d4 d5 d6 d7
    have hwrap:IntKind.i64.wrap (I.length:Int)=(I.length:Int):=zc8 _ (by omega) (by omega)
    have hf3:(0:Int)<(I.length:Int)+1:=by omega
    have hf4:(0:Int)≤(I.length:Int):=by omega
    have hf5:(I.length:Int)<(I.length:Int)+1:=by omega
    have hcall:=fun W=>zp1 i.sort i.line i.word i.a i.b i.c i.n i.nm W
    have HL:Hid (zed (I++[i])=ends i.word):=zfQ I i
    clear z hst hbo hil
    go_wp2_with(first|(go_at_call 132;refine(hcall _).mono ?_;rintro e w2 ⟨rfl,hb2⟩))
    go_ret
    refine⟨?_,hbw.trans (hb2.mono hbw.size)⟩
    rw [HA.out,HL.out];simp
  ·intro x c kl yd yp w1 cnt1 hkey hlk hv hat hrg1 hlt1 hg1 hs1 hen
   obtain⟨x',ex,rfl,_⟩:=string_of_keyOf Tryz.underlying9 hkey
   cases ex
   obtain⟨c',ec,ey,_⟩:=plainElem_int_inv Tryz.underlying3 hv
   cases ec
   have hh:=has_true_of_atKey hat
   rw [hhas x] at hh
   obtain⟨p,hp⟩:=zp0 E x hh
   have hc:c=(p:Int):=by
    have h1:=hat0 x p (.lit (.int .i64 0)) hp
    rw [hat] at h1
    cases ey
    simpa using h1
   subst hc
   clear hs1
   have hb11:w1.cell? ⟨w.heap.size,2,none⟩=some (.slice ao its.length capb):=(hg1.cell_far _ (by simp;have:=hbw.size;have:=hg0.size;have:=hgw.size;omega) (by simp)).trans hbr
   by_cases hpn:p=its.length
   ·have hpn':((p:Int) == (its.length:Int))=true:=by simp;omega
    obtain⟨q,hq,hq2,_⟩:=zsk E x p hp
    have HA:Hid (E.all (fun p=>!decide (p.2=its.length))=false):=zmM E _ q hq (hq2.trans hpn)
    have hb12:Below w.heap.size w w1:=hbw.trans ((Below.refl w.heap.size wr).grown hg1 hbw.size (fun j hj=>by cases hj;omega))
    clear hno hrg hrg1 hgw hhas hat0 hpw hown hD hat
    go_wp2
    go_ret
    exact⟨by rw [HA.out];rfl,hb12⟩
   ·have hpn':((p:Int) == (its.length:Int))=false:=by simp;omega
    go_wp2
    go_roundw
    case rel=>exact⟨_,cnt1,hrg1,hgw.andThen hg1 (fun j hj=>by cases hj;exact Or.inr rfl),zs9 hpw hp hpn hno⟩
    case measure=>rw [hrg1.left_eq,hrg.left_eq];exact hlt1
theorem zlv(w:World)(B pm:Nat)(v:Value)(F:List FnM)(h:PIn B w pm v F)(hF:0<F.length)(hn:F.length≤300)(hb:∀ f∈F,f.its.length≤300∧∀ i∈f.its,ItOk i):
  Calls Tryz.prog 70 #[.agg #[v,.map (some pm)]] w (zwN w (F.map FnM.fn)):=by
 obtain⟨fg,cap,rfl,hfg,hcap,hcells⟩:=h.fns hF
 go_enter Tryz.func70,Tryz.ntmps70
 go_wp2
 go_loopw [7] (fun ti wr=>∃(k:Nat),k≤F.length∧ti=.int .i64 (k:Int)∧Below w.heap.size w wr∧endK (F.map FnM.fn)=endK ((F.map FnM.fn).drop k)) (fun ti _=>F.length-(intOf ti).toNat)
 case atStart=>exact⟨0,by omega,rfl,(Below.refl _ _).alloc (Nat.le_refl _) _,rfl⟩
 case round =>
  obtain⟨k,hk,rfl,hbw,hE⟩:=hrel
  have HE:Hid (endK (F.map FnM.fn)=endK ((F.map FnM.fn).drop k)):=hE
  clear hE
  have hszr:=hbw.size
  by_cases hlt:k<F.length
  ·obtain⟨c0,c1,c2,c3⟩:=hcells k hlt
   have hmem:=List.getElem_mem hlt
   have HD:Hid (endK (F.map FnM.fn)=if zsj F[k].its=true then endK ((F.map FnM.fn).drop (k+1)) else some F[k].line):=by
    unfold Hid;rw [HE.out,zsi _ k (by simpa using hlt),zuK _ (hb F[k] hmem).2];simp [FnM.fn]
   have hbo:=(h.bodies F[k] hmem)
   have hla:=(h.labels F[k] hmem)
   have hbl:=Nat.le_trans (zdM F[k].its) (hb F[k] hmem).1
   generalize F[k]=f at c0 c1 c2 c3 hmem HD hbo hbl hla
   have z:∀ j,wr.cell? ⟨fg,j,none⟩=w.cell? ⟨fg,j,none⟩:=fun j=>hbw.cell (p:=⟨fg,j,none⟩) hfg
   rw [←z] at c0 c1 c2 c3
   clear z
   have hk4:k*4≤1200:=by omega
   obtain⟨name,line,its,bv,m⟩:=f
   simp only at c0 c1 c2 c3 hbo hbl HD hla
   have hbo2:=zas (w':=wr) hbo (fun g hg=>hbw.block g (hbo.lt g hg).2)
   have hla2:=hla.below hbw hla.lt
   obtain⟨ao,capb,rfl⟩:=zb8 hbo
   have hcall:=zsA (wr.alloc (.cells #[.string name,.int .i64 line,.slice ao (zal its).length capb,.map (some m)] 131)) B m name line _ _ _ (hla2.alloc _) (hbo2.alloc _) hbl
   have hM:Hid (((zcw its).all (fun p=>!decide (p.2=(zal its).length))&&zed (zal its))=zsj its):=rfl
   rw [hM.out] at hcall
   clear hbo hbo2 hla hla2 hM
   cases hend:zsj its with
   | false =>
    rw [hend] at HD hcall
    go_wp2_with(first|(go_at_call 105;refine hcall.mono ?_;rintro e w2 ⟨rfl,hb2⟩;have hq1:=(zoa hb2).1)|(go_at_call 79;refine(za3 _ _ _).mono ?_;rintro e wx ⟨rfl,hww⟩;subst hww))
    exact⟨rfl,hbw.trans ((zbj _ _ hb2).mono (by omega)),.inl ⟨_,HD.out,rfl⟩⟩
   | true =>
    rw [hend] at HD hcall
    go_wp2_with(first|(go_at_call 105;refine hcall.mono ?_;rintro e w2 ⟨rfl,hb2⟩;have hq1:=(zoa hb2).1))
    have hb12:=hbw.trans ((zbj _ _ hb2).mono (by omega))
    clear hb2
    go_roundw
    case rel=>exact⟨k+1,by omega,by go_num,hb12,HD.out⟩
    case measure=>simp [intOf];omega
  ·have HX:Hid (k=F.length):=by unfold Hid;omega
   go_wp2
   go_end0
   refine⟨hbw,.inr ⟨?_,rfl⟩⟩
   rw [HE.out,HX.out,List.drop_of_length_le (by simp)];rfl
end Go.Proofs.YtfpgjkbjbbgciaaGreatDoor
namespace Go.Proofs.YtfpgjkbjbbgciaaGreatDoor
open Go.RowKit Sp
theorem zna{P:Program}{o:Oper}{a:Act}{C:World→Prop}{K:Act→Prop}(t:TypeId)(parts:Array (Nat × Operand))(ho:o.op=.build t parts)(cells:Array Value)(vs:List (Nat × Value))(hv:(parts.map fun(i,x)=>(i,a.eval x))=vs.toArray)(hb:P.built t vs=some cells)
  (h:K (a.put o.dst (.agg cells))):o.quiet P a C K:=by
 refine⟨_,fun w _=>?_,h⟩
 unfold Oper.quietAt execOp
 simp only [ho,hv,Sem.run_bind,run_build w t _ cells hb,Sem.run_pure,Result.andThen_ok]
 exact⟨rfl,rfl⟩
theorem znb(s f p e:Int)(ao:Option Addr)(n c:Nat)(x0 x1 x2 x3 x4 x5 x6 x7 y0 y1 y2 y3 y4 y5 y6 y7 y8 y9 y10 y11 y12 y13 y14 y15:Value):
  Tryz.prog.built 34 [(0,.int .i64 s),(1,.agg #[x0,x1,x2,x3,x4,x5,x6,x7]),(2,.agg #[y0,y1,y2,y3,y4,y5,y6,y7,y8,y9,y10,y11,y12,y13,y14,y15]),(3,.slice ao n c),(4,.int .i64 f),(5,.int .i64 p),(7,.int .i64 e)]
   = some #[.int .i64 s,x0,x1,x2,x3,x4,x5,x6,x7,y0,y1,y2,y3,y4,y5,y6,y7,y8,y9,y10,y11,y12,y13,y14,y15,.slice ao n c,.int .i64 f,.int .i64 p,.int .i64 0,.int .i64 e]:=by kernel_rfl
theorem znc(m:Mc)(ao:Option Addr)(n c:Nat):
  Tryz.prog.built 34 [(0,.int .i64 m.steps),(1,.agg ((List.range 8).map (fun i=>Value.int .i64 (m.regs i))).toArray),(2,.agg ((List.range 16).map (fun i=>Value.int .i64 (m.cells i))).toArray),(3,.slice ao n c),(4,.int .i64 m.frames),(5,.int .i64 m.peak),(7,.int .i64 m.fin)]
   = some (zav m (.slice ao n c) 0).toArray:=by
 rw [show(List.range 8).map (fun i=>Value.int .i64 (m.regs i))=[.int .i64 (m.regs 0),.int .i64 (m.regs 1),.int .i64 (m.regs 2),.int .i64 (m.regs 3),.int .i64 (m.regs 4),.int .i64 (m.regs 5),.int .i64 (m.regs 6),.int .i64 (m.regs 7)] from rfl,
  show(List.range 16).map (fun i=>Value.int .i64 (m.cells i))=[.int .i64 (m.cells 0),.int .i64 (m.cells 1),.int .i64 (m.cells 2),.int .i64 (m.cells 3),.int .i64 (m.cells 4),.int .i64 (m.cells 5),.int .i64 (m.cells 6),.int .i64 (m.cells 7),.int .i64 (m.cells 8),.int .i64 (m.cells 9),.int .i64 (m.cells 10),.int .i64 (m.cells 11),.int .i64 (m.cells 12),.int .i64 (m.cells 13),.int .i64 (m.cells 14),.int .i64 (m.cells 15)] from rfl,znb]
 rfl
theorem znd(w:World)(b:Nat)(bv iv ov:Value)(m:Mc)(M:MchAt w b m bv iv ov)(hfr:m.frames=if m.fin=2 then 0 else(m.backs.length:Int)+1)(hfew:m.backs.length≤15):Calls Tryz.prog 110 #[.pointer (some ⟨b,0,none⟩)] w fun e w'=>e=.returned (.int .i64 m.frames)∧w'=w:=by
 by_cases h:m.fin=2
 ·rw [hfr,if_pos h];exact zmR w b bv iv ov m M.mem h
 ·rw [hfr,if_neg h]
  obtain⟨ao,c,rfl⟩:=zb8 M.backs
  exact zeU w b _ c ao iv ov m M.mem (by omega) (by simpa using h)
theorem MchAt.drewN{w:World}{b:Nat}{m:Mc}{bv iv ov:Value}(h:MchAt w b m bv iv ov)(n:Nat):MchAt (w.drewN n) b m bv iv ov:=⟨h.mem.drewN n,h.backs,h.out,h.inp⟩
theorem MchAt.alloc{w:World}{b:Nat}{m:Mc}{bv iv ov:Value}(h:MchAt w b m bv iv ov)(x:Obj):MchAt (w.alloc x) b m bv iv ov :=
 (h.same (h.mem.alloc x) (World.grownBy_alloc w x _) rfl rfl rfl).1
theorem zqa(w:World)(b:Nat)(bv iv:Value)(ao:Option Addr)(no co:Nat)(m:Mc)(M:MchAt w b m bv iv (.slice ao no co))(hfr:m.frames=if m.fin=2 then 0 else(m.backs.length:Int)+1)(hfew:m.backs.length≤15):
  Calls Tryz.prog 86 #[.pointer (some ⟨b,0,none⟩)] w fun e w'=>e=.returned (.agg (zav m (.slice ao no co) 0).toArray)∧Below w.heap.size w w':=by
 have M2:=M.alloc Z34
 have hfc:=fun n=>znd ((w.alloc Z34).drewN n) b bv iv _ m (M2.drewN n) hfr hfew
 have lg:=M.mem.lt
 have hne4:¬w.heap.size=b:=by omega
 have hne5:¬b=w.heap.size:=by omega
 have cS:=M2.mem.cS
 have cO:=M2.mem.cO
 have cP:=M2.mem.cP
 have cE:=M2.mem.cE
 have hRS:(w.alloc Z34).rangeAt b 0 ((List.range 8).map (fun i=>Value.int .i64 (m.regs i))):=fun j v hv=>by
  have hj:=(List.getElem?_eq_some_iff.1 hv).1
  simp at hj
  rw [Nat.zero_add,M2.mem.cR j hj,←hv]
  simp [hj]
 have hCS:(w.alloc Z34).rangeAt b 8 ((List.range 16).map (fun i=>Value.int .i64 (m.cells i))):=fun j v hv=>by
  have hj:=(List.getElem?_eq_some_iff.1 hv).1
  simp at hj
  rw [M2.mem.cC j hj,←hv]
  simp [hj]
 have hbuilt:=znc m ao no co
 have hl:=zaS m (.slice ao no co) 0
 have h1:=zbg m ao no co 0
 have hi31:(Tryz.prog.info? 31).map (·.size)=some ((List.range 8).map (fun i=>Value.int .i64 (m.regs i))).length:=by simp only [List.length_map,List.length_range];exact Tryz.info31
 have hi32:(Tryz.prog.info? 32).map (·.size)=some ((List.range 16).map (fun i=>Value.int .i64 (m.cells i))).length:=by simp only [List.length_map,List.length_range];exact Tryz.info32
 generalize (List.range 8).map (fun i=>Value.int .i64 (m.regs i))=RS at hRS hbuilt hi31
 generalize (List.range 16).map (fun i=>Value.int .i64 (m.cells i))=CS at hCS hbuilt hi32
 generalize zav m (.slice ao no co) 0=ds at hbuilt hl h1 ⊢
 have hu31:Tryz.prog.underlying 31=some (.array _ _):=Tryz.underlying31
 have hu32:Tryz.prog.underlying 32=some (.array _ _):=Tryz.underlying32
 have ht:(w.alloc Z34).there w.heap.size 0 30:=zdi w
 have hinf:(Tryz.prog.info? 34).map (·.size)=some ds.toArray.size:=zbU ds hl
 go_enter Tryz.func86,Tryz.ntmps86
 go_wp2_with fail
 refine zak 27 (by kernel_rfl) (by kernel_rfl) ?_
 simp only [List.take,List.drop]
 repeat(first
  | (refine BigFrame.wpQuiet_want rfl ?_;intro K hK;refine zfg 31 _ rfl b 0 rfl RS _ hRS hu31 rfl hi31 ?_;refine hK _ ?_;clear hK K;simp only [Act.put,List.setIfInBounds_toArray,List.set_cons_succ,List.set_cons_zero])
  | (refine BigFrame.wpQuiet_want rfl ?_;intro K hK;refine zfg 32 _ rfl b 8 rfl CS _ hCS hu32 rfl hi32 ?_;refine hK _ ?_;clear hK K;simp only [Act.put,List.setIfInBounds_toArray,List.set_cons_succ,List.set_cons_zero])
  | go_big_quiet_step (first|(go_at_call 110;exact Calls.quiet_of_same (hfc _))))
 refine BigFrame.wpQuiet_want rfl ?_
 intro K hK
 refine zna 34 _ rfl ds.toArray _ ?_ hbuilt ?_
 ·simp [Act.eval]
 refine hK _ ?_
 clear hK K
 simp only [Act.put,List.setIfInBounds_toArray,List.set_cons_succ,List.set_cons_zero]
 refine wpQuiet_nil ?_
 rintro _ ⟨nr,rfl⟩
 have ht2:((w.alloc Z34).drewN nr).there w.heap.size 0 ds.toArray.size:=by rw [show ds.toArray.size=30 by simp [hl]];exact ht
 have hb0:Below w.heap.size w ((w.alloc Z34).drewN nr):=((Below.refl w.heap.size w).alloc (Nat.le_refl _) _).trans ((zaN _ nr).mono (by simp))
 generalize (w.alloc Z34).drewN nr=W at ht2 hb0 ⊢
 repeat(first
  | (refine wpList_store_mid rfl 34 _ _ rfl w.heap.size 0 ds.toArray rfl rfl ht2 hinf h1 ?_)
  | go_values|go_skip|go_guarded|go_step|go_upon|go_back)
 have hu34:Tryz.prog.underlying 34=some (.struct _):=Tryz.underlying34
 have hr:=World.rangeAt_setCells_same W w.heap.size 0 ds (by rw [show ds.length=ds.toArray.size by simp];exact ht2)
 have hres:=run_loadVar_mid (W.setCells w.heap.size 0 ds) w.heap.size 0 34 ds _ hr hu34 rfl (by rw [hl];exact Tryz.info34)
 exact bodyPost_ret (v:=.agg ds.toArray) (zbz Tryz.results86 _ ⟨w.heap.size,0,none⟩ rfl hres) rfl ⟨rfl,zar ds 0 hb0 (Nat.le_refl _)⟩
end Go.Proofs.YtfpgjkbjbbgciaaGreatDoor
