import Derived.Test.YtfpgjkbjbbgciaaGreatDoorMi32
import Derived.Test.YtfpgjkbjbbgciaaGreatDoorMi34
import Derived.Test.YtfpgjkbjbbgciaaGreatDoorMi35
set_option maxRecDepth 100000
set_option maxHeartbeats 8000000
namespace Go.Proofs.YtfpgjkbjbbgciaaGreatDoor
open Go.RowKit Sp
structure Rs where
 marked:List Mk
 steps:Int
 seen:Nat
 covers:Bool
def Rs.begin(R:Rs)(s:Int):Rs:=⟨if zbC s then [] else R.marked,s,0,true⟩
structure RsC(w:World)(S o:Nat)(mv:Value)(R:Rs):Prop where
 cM:w.cell? ⟨S,o,none⟩=some mv
 cS:w.cell? ⟨S,o+1,none⟩=some (.int .i64 R.steps)
 cN:w.cell? ⟨S,o+2,none⟩=some (.int .i64 (R.seen:Int))
 cC:w.cell? ⟨S,o+3,none⟩=some (.bool R.covers)
structure Kept4(w w':World)(S o:Nat)(hb:Option Nat):Prop where
 os:w'.os=w.os
 tape:w'.tape=w.tape
 output:w'.output=w.output
 size:w.heap.size≤w'.heap.size
 block:∀ q,q<w.heap.size→¬q=S→some q≠hb→w'.heap[q]?=w.heap[q]?
 cell:∀ j,¬j=o→¬j=o+1→¬j=o+2→¬j=o+3→w'.cell? ⟨S,j,none⟩=w.cell? ⟨S,j,none⟩
 fz:∀ j,w'.frozen? ⟨S,j,none⟩=w.frozen? ⟨S,j,none⟩
theorem RsC.below{w w':World}{S o:Nat}{mv:Value}{R:Rs}(h:RsC w S o mv R)(hb:Below w.heap.size w w'):RsC w' S o mv R:=by
 have hS:S<w.heap.size:=World.block_lt_of_cell? w _ h.cM
 have c:∀ j,w'.cell? ⟨S,j,none⟩=w.cell? ⟨S,j,none⟩:=fun j=>World.cell?_of_block (a:=⟨S,j,none⟩) (hb.block S hS)
 exact⟨(c _).trans h.cM,(c _).trans h.cS,(c _).trans h.cN,(c _).trans h.cC⟩
theorem RsC.set{w:World}{S o:Nat}{mv mv2:Value}{R R2:Rs}(h:RsC w S o mv R)(n:Nat)(v u:Value)(hu:w.cell? ⟨S,n,none⟩=some u)
  (h1:(if o=n then v else mv)=mv2) (h2:(if o+1=n then v else .int .i64 R.steps)=.int .i64 R2.steps) (h3:(if o+2=n then v else .int .i64 (R.seen:Int))=.int .i64 (R2.seen:Int)) (h4:(if o+3=n then v else .bool R.covers)=.bool R2.covers):RsC (w.setCell ⟨S,n,none⟩ v) S o mv2 R2:=by
 have e:∀ j x,w.cell? ⟨S,j,none⟩=some x→(w.setCell ⟨S,n,none⟩ v).cell? ⟨S,j,none⟩=some (if j=n then v else x):=fun j x hx=>by
  rw [zaq w S n j v u hu]
  split
  ·rfl
  ·exact hx
 exact⟨by rw [e _ _ h.cM,h1],by rw [e _ _ h.cS,h2],by rw [e _ _ h.cN,h3],by rw [e _ _ h.cC,h4]⟩
theorem zcn{w:World}{S o n:Nat}{v u:Value}{hb:Option Nat}(hu:w.cell? ⟨S,n,none⟩=some u)(hn:n=o∨n=o+1∨n=o+2∨n=o+3):Kept4 w (w.setCell ⟨S,n,none⟩ v) S o hb :=
 ⟨rfl,rfl,rfl,by rw [World.size_setCell];exact Nat.le_refl _,fun q _ h1 _=>Below.heap_setCell w _ _ q h1,fun j h1 h2 h3 h4=>by rw [zaq w S n j v u hu,if_neg (by omega)],fun j=>zcL⟩
theorem Kept4.trans{a b c:World}{S o:Nat}{hb:Option Nat}(h:Kept4 a b S o hb)(k:Kept4 b c S o hb):Kept4 a c S o hb :=
 ⟨k.os.trans h.os,k.tape.trans h.tape,k.output.trans h.output,Nat.le_trans h.size k.size,fun q hq h1 h2=>(k.block q (Nat.lt_of_lt_of_le hq h.size) h1 h2).trans (h.block q hq h1 h2),fun j h1 h2 h3 h4=>(k.cell j h1 h2 h3 h4).trans (h.cell j h1 h2 h3 h4),fun j=>(k.fz j).trans (h.fz j)⟩
theorem zc7{w w':World}{S o:Nat}{hb:Option Nat}(hS:S<w.heap.size)(h:Below w.heap.size w w'):Kept4 w w' S o hb :=
 ⟨h.os,h.tape,h.output,h.size,fun q hq _ _=>h.block q hq,fun j _ _ _ _=>World.cell?_of_block (a:=⟨S,j,none⟩) (h.block S hS),fun j=>World.frozen?_of_block (a:=⟨S,j,none⟩) (h.block S hS)⟩
def begN(s:Int)(n:Nat):Nat:=if zbC s then 0 else n
def znL(w:World)(S o:Nat)(mv:Value)(R:Rs):Ending→World→Prop:=fun e w'=>e=.returned (.tuple #[])∧RsC w' S o mv R∧Kept4 w w' S o none
theorem zqQ{w:World}{S o n cap:Nat}{ao:Option Addr}{R:Rs}(h:RsC w S o (.slice ao n cap) R)(fz:∀ j,w.frozen? ⟨S,j,none⟩=false)(hn:n≤cap)(hcap:cap≤maxLen)(h0:ao=none→n=0∧cap=0)(s:Int)(s0:0≤s)(s1:s≤100000):
  Calls Tryz.prog 151 #[.pointer (some ⟨S,o,none⟩),.int .i64 s] w (znL w S o (.slice ao (begN s n) cap) (R.begin s)):=by
 have hS:S<w.heap.size:=World.block_lt_of_cell? w _ h.cM
 have c0:=h.cM
 have c1:=h.cS
 have c2:=h.cN
 have c3:=h.cC
 have f0:=fz o
 have f1:=fz (o+1)
 have f2:=fz (o+2)
 have f3:=fz (o+3)
 obtain⟨X,hX⟩:∃ X,(((w.setCell ⟨S,o,none⟩ (.slice ao n cap)).setCell ⟨S,o+1,none⟩ (.int .i64 s)).setCell ⟨S,o+2,none⟩ (.int .i64 0)).setCell ⟨S,o+3,none⟩ (.bool true)=X:=⟨_,rfl⟩
 have A1:RsC (w.setCell ⟨S,o,none⟩ (.slice ao n cap)) S o (.slice ao n cap) R:=h.set o _ _ c0 (by rw [if_pos rfl]) (by rw [if_neg (by omega)]) (by rw [if_neg (by omega)]) (by rw [if_neg (by omega)])
 have A2:RsC ((w.setCell ⟨S,o,none⟩ (.slice ao n cap)).setCell ⟨S,o+1,none⟩ (.int .i64 s)) S o (.slice ao n cap) ⟨R.marked,s,R.seen,R.covers⟩:=A1.set (o+1) _ _ A1.cS (by rw [if_neg (by omega)]) (by rw [if_pos rfl]) (by rw [if_neg (by omega)]) (by rw [if_neg (by omega)])
 have A3:RsC (((w.setCell ⟨S,o,none⟩ (.slice ao n cap)).setCell ⟨S,o+1,none⟩ (.int .i64 s)).setCell ⟨S,o+2,none⟩ (.int .i64 0)) S o (.slice ao n cap) ⟨R.marked,s,0,R.covers⟩:=A2.set (o+2) _ _ A2.cN (by rw [if_neg (by omega)]) (by rw [if_neg (by omega)]) (by rw [if_pos rfl];rfl) (by rw [if_neg (by omega)])
 have A4:RsC X S o (.slice ao n cap) ⟨R.marked,s,0,true⟩:=by rw [←hX];exact A3.set (o+3) _ _ A3.cC (by rw [if_neg (by omega)]) (by rw [if_neg (by omega)]) (by rw [if_neg (by omega)]) (by rw [if_pos rfl])
 have K4:Kept4 w X S o none:=by rw [←hX];exact(zcn c0 (by omega)).trans ((zcn A1.cS (by omega)).trans ((zcn A2.cN (by omega)).trans (zcn A3.cC (by omega))))
 have HX:Hid (RsC X S o (.slice ao n cap) ⟨R.marked,s,0,true⟩∧Kept4 w X S o none∧(∀ j,w.frozen? ⟨S,j,none⟩=false)∧n≤cap∧cap≤maxLen∧(ao=none→n=0∧cap=0)):=⟨A4,K4,fz,hn,hcap,h0⟩
 have hmk:=zc6 A4.cS s0 s1
 clear A1 A2 A3 A4 K4 fz hn hcap h0 h
 by_cases hm:zbC s=true
 ·have hmk':Calls Tryz.prog 167 #[.pointer (some ⟨S,o,none⟩)] X fun e w'=>e=.returned (.bool true)∧Below X.heap.size X w':=by
   have t:zbC (⟨R.marked,s,0,true⟩:Rs).steps=true:=hm
   rw [t] at hmk;exact hmk
  clear hmk
  have hend:∀ wx,Below X.heap.size X wx→znL w S o (.slice ao (begN s n) cap) (R.begin s) (.returned (.tuple #[])) (wx.setCell ⟨S,o,none⟩ (.slice ao 0 cap)):=fun wx hbx=>by
   obtain⟨RX,KX,_⟩:=HX.out
   have RW:=RX.below hbx
   have hSX:S<X.heap.size:=World.block_lt_of_cell? _ _ RX.cM
   refine⟨rfl,?_,KX.trans ((zc7 hSX hbx).trans (zcn RW.cM (by omega)))⟩
   unfold Rs.begin begN
   rw [if_pos hm,if_pos hm]
   exact RW.set o _ _ RW.cM (by rw [if_pos rfl]) (by rw [if_neg (by omega)]) (by rw [if_neg (by omega)]) (by rw [if_neg (by omega)])
  have hfx:∀ wx,Below X.heap.size X wx→wx.cell? ⟨S,o,none⟩=some (.slice ao n cap)∧wx.frozen? ⟨S,o,none⟩=false:=fun wx hbx=>by
   obtain⟨RX,KX,fz,_⟩:=HX.out
   have hSX:S<X.heap.size:=World.block_lt_of_cell? _ _ RX.cM
   exact⟨(RX.below hbx).cM,((zc7 (o:=o) (hb:=none) hSX hbx).fz o).trans ((KX.fz o).trans (fz o))⟩
  cases ao with
  | none =>
   obtain⟨_,_,_,_,_,h0⟩:=HX.out
   obtain⟨rfl,rfl⟩:=h0 rfl
   clear HX h0
   go_enter Tryz.func151,Tryz.ntmps151
   go_wp2_with(go_at_call 167;(with_reducible refine hmk'.mono ?_);rintro e wx ⟨rfl,hbx⟩;obtain⟨d0,z0⟩:=hfx wx hbx)
   exact bodyPost_end (results_none rfl _ _ _) rfl (hend wx hbx)
  | some a =>
   obtain⟨_,_,_,hn,hcap,h0⟩:=HX.out
   clear HX h0
   unfold maxLen at hcap
   go_enter Tryz.func151,Tryz.ntmps151
   go_wp2_with(go_at_call 167;(with_reducible refine hmk'.mono ?_);rintro e wx ⟨rfl,hbx⟩;obtain⟨d0,z0⟩:=hfx wx hbx)
   exact bodyPost_end (results_none rfl _ _ _) rfl (hend wx hbx)
 ·have hm':zbC s=false:=by simpa using hm
  have hmk':Calls Tryz.prog 167 #[.pointer (some ⟨S,o,none⟩)] X fun e w'=>e=.returned (.bool false)∧Below X.heap.size X w':=by
   have t:zbC (⟨R.marked,s,0,true⟩:Rs).steps=false:=hm'
   rw [t] at hmk;exact hmk
  clear hmk
  have hend:∀ wx,Below X.heap.size X wx→znL w S o (.slice ao (begN s n) cap) (R.begin s) (.returned (.tuple #[])) wx:=fun wx hbx=>by
   obtain⟨RX,KX,_⟩:=HX.out
   have hSX:S<X.heap.size:=World.block_lt_of_cell? _ _ RX.cM
   refine⟨rfl,?_,KX.trans (zc7 hSX hbx)⟩
   unfold Rs.begin begN
   rw [if_neg hm,if_neg hm]
   exact RX.below hbx
  clear HX hm hm'
  go_enter Tryz.func151,Tryz.ntmps151
  go_wp2_with(go_at_call 167;(with_reducible refine hmk'.mono ?_);rintro e wx ⟨rfl,hbx⟩)
  exact bodyPost_end (results_none rfl _ _ _) rfl (hend wx hbx)
section
theorem zaf{α:Type}{l:List α}{n:Nat}(h:l.length=n+1):∃ a r,l=a :: r∧r.length=n:=by
 cases l with
 | nil=>simp at h
 | cons a r=>exact⟨a,r,rfl,by simpa using h⟩
theorem zz4{α:Type}(l:List α)(h:l.length=51):∃ x0 x1 x2 x3 x4 x5 x6 x7 x8 x9 x10 x11 x12 x13 x14 x15 x16 x17 x18 x19 x20 x21 x22 x23 x24 x25 x26 x27 x28 x29 x30 x31 x32 x33 x34 x35 x36 x37 x38 x39 x40 x41 x42 x43 x44 x45 x46 x47 x48 x49 x50,l=x0 :: x1 :: x2 :: x3 :: x4 :: x5 :: x6 :: x7 :: x8 :: x9 :: x10 :: x11 :: x12 :: x13 :: x14 :: x15 :: x16 :: x17 :: x18 :: x19 :: x20 :: x21 :: x22 :: x23 :: x24 :: x25 :: x26 :: x27 :: x28 :: x29 :: x30 :: x31 :: x32 :: x33 :: x34 :: x35 :: x36 :: x37 :: x38 :: x39 :: x40 :: x41 :: x42 :: x43 :: x44 :: x45 :: x46 :: x47 :: x48 :: x49 :: x50 :: []:=by
 obtain⟨x0,l0,e0,h0⟩:=zaf h
 obtain⟨x1,l1,e1,h1⟩:=zaf h0
 obtain⟨x2,l2,e2,h2⟩:=zaf h1
 obtain⟨x3,l3,e3,h3⟩:=zaf h2
 obtain⟨x4,l4,e4,h4⟩:=zaf h3
 obtain⟨x5,l5,e5,h5⟩:=zaf h4
 obtain⟨x6,l6,e6,h6⟩:=zaf h5
 obtain⟨x7,l7,e7,h7⟩:=zaf h6
 obtain⟨x8,l8,e8,h8⟩:=zaf h7
 obtain⟨x9,l9,e9,h9⟩:=zaf h8
 obtain⟨x10,l10,e10,h10⟩:=zaf h9
 obtain⟨x11,l11,e11,h11⟩:=zaf h10
 obtain⟨x12,l12,e12,h12⟩:=zaf h11
 obtain⟨x13,l13,e13,h13⟩:=zaf h12
 obtain⟨x14,l14,e14,h14⟩:=zaf h13
 obtain⟨x15,l15,e15,h15⟩:=zaf h14
 obtain⟨x16,l16,e16,h16⟩:=zaf h15
 obtain⟨x17,l17,e17,h17⟩:=zaf h16
 obtain⟨x18,l18,e18,h18⟩:=zaf h17
 obtain⟨x19,l19,e19,h19⟩:=zaf h18
 obtain⟨x20,l20,e20,h20⟩:=zaf h19
 obtain⟨x21,l21,e21,h21⟩:=zaf h20
 obtain⟨x22,l22,e22,h22⟩:=zaf h21
 obtain⟨x23,l23,e23,h23⟩:=zaf h22
 obtain⟨x24,l24,e24,h24⟩:=zaf h23
 obtain⟨x25,l25,e25,h25⟩:=zaf h24
 obtain⟨x26,l26,e26,h26⟩:=zaf h25
 obtain⟨x27,l27,e27,h27⟩:=zaf h26
 obtain⟨x28,l28,e28,h28⟩:=zaf h27
 obtain⟨x29,l29,e29,h29⟩:=zaf h28
 obtain⟨x30,l30,e30,h30⟩:=zaf h29
 obtain⟨x31,l31,e31,h31⟩:=zaf h30
 obtain⟨x32,l32,e32,h32⟩:=zaf h31
 obtain⟨x33,l33,e33,h33⟩:=zaf h32
 obtain⟨x34,l34,e34,h34⟩:=zaf h33
 obtain⟨x35,l35,e35,h35⟩:=zaf h34
 obtain⟨x36,l36,e36,h36⟩:=zaf h35
 obtain⟨x37,l37,e37,h37⟩:=zaf h36
 obtain⟨x38,l38,e38,h38⟩:=zaf h37
 obtain⟨x39,l39,e39,h39⟩:=zaf h38
 obtain⟨x40,l40,e40,h40⟩:=zaf h39
 obtain⟨x41,l41,e41,h41⟩:=zaf h40
 obtain⟨x42,l42,e42,h42⟩:=zaf h41
 obtain⟨x43,l43,e43,h43⟩:=zaf h42
 obtain⟨x44,l44,e44,h44⟩:=zaf h43
 obtain⟨x45,l45,e45,h45⟩:=zaf h44
 obtain⟨x46,l46,e46,h46⟩:=zaf h45
 obtain⟨x47,l47,e47,h47⟩:=zaf h46
 obtain⟨x48,l48,e48,h48⟩:=zaf h47
 obtain⟨x49,l49,e49,h49⟩:=zaf h48
 obtain⟨x50,l50,e50,h50⟩:=zaf h49
 have e:=List.length_eq_zero_iff.1 h50
 exact⟨x0,x1,x2,x3,x4,x5,x6,x7,x8,x9,x10,x11,x12,x13,x14,x15,x16,x17,x18,x19,x20,x21,x22,x23,x24,x25,x26,x27,x28,x29,x30,x31,x32,x33,x34,x35,x36,x37,x38,x39,x40,x41,x42,x43,x44,x45,x46,x47,x48,x49,x50,by rw [e0,e1,e2,e3,e4,e5,e6,e7,e8,e9,e10,e11,e12,e13,e14,e15,e16,e17,e18,e19,e20,e21,e22,e23,e24,e25,e26,e27,e28,e29,e30,e31,e32,e33,e34,e35,e36,e37,e38,e39,e40,e41,e42,e43,e44,e45,e46,e47,e48,e49,e50,e]⟩
theorem zwq(W:World)(x0 x1 x2 x3 x4 x5 x6 x7 x8 x9 x10 x11 x12 x13 x14 x15 x16 x17 x18 x19 x20 x21 x22 x23 x24 x25 x26 x27 x28 x29 x30 x31 x32 x33 x34 x35 x36 x37 x38 x39 x40 x41 x42 x43 x44 x45 x46 x47 x48 x49 x50:Value):(Instr.buildSlice 152 1 #[(0,.agg (x0 :: x1 :: x2 :: x3 :: x4 :: x5 :: x6 :: x7 :: x8 :: x9 :: x10 :: x11 :: x12 :: x13 :: x14 :: x15 :: x16 :: x17 :: x18 :: x19 :: x20 :: x21 :: x22 :: x23 :: x24 :: x25 :: x26 :: x27 :: x28 :: x29 :: x30 :: x31 :: x32 :: x33 :: x34 :: x35 :: x36 :: x37 :: x38 :: x39 :: x40 :: x41 :: x42 :: x43 :: x44 :: x45 :: x46 :: x47 :: x48 :: x49 :: x50 :: []).toArray)]).run Tryz.prog W=.ok (.slice (some ⟨W.heap.size,0,none⟩) 1 1) (W.alloc (.cells (x0 :: x1 :: x2 :: x3 :: x4 :: x5 :: x6 :: x7 :: x8 :: x9 :: x10 :: x11 :: x12 :: x13 :: x14 :: x15 :: x16 :: x17 :: x18 :: x19 :: x20 :: x21 :: x22 :: x23 :: x24 :: x25 :: x26 :: x27 :: x28 :: x29 :: x30 :: x31 :: x32 :: x33 :: x34 :: x35 :: x36 :: x37 :: x38 :: x39 :: x40 :: x41 :: x42 :: x43 :: x44 :: x45 :: x46 :: x47 :: x48 :: x49 :: x50 :: []).toArray 217)):=by kernel_rfl
theorem zz5(W:World)(cs:List Value)(h:cs.length=51):(Instr.buildSlice 152 1 #[(0,.agg cs.toArray)]).run Tryz.prog W=.ok (.slice (some ⟨W.heap.size,0,none⟩) 1 1) (W.alloc (.cells cs.toArray 217)):=by
 obtain⟨x0,x1,x2,x3,x4,x5,x6,x7,x8,x9,x10,x11,x12,x13,x14,x15,x16,x17,x18,x19,x20,x21,x22,x23,x24,x25,x26,x27,x28,x29,x30,x31,x32,x33,x34,x35,x36,x37,x38,x39,x40,x41,x42,x43,x44,x45,x46,x47,x48,x49,x50,rfl⟩:=zz4 cs h
 exact zwq W x0 x1 x2 x3 x4 x5 x6 x7 x8 x9 x10 x11 x12 x13 x14 x15 x16 x17 x18 x19 x20 x21 x22 x23 x24 x25 x26 x27 x28 x29 x30 x31 x32 x33 x34 x35 x36 x37 x38 x39 x40 x41 x42 x43 x44 x45 x46 x47 x48 x49 x50
theorem Tryz.info217:(Tryz.prog.info? 217).map (fun i=>(i.size,i.bytes))=some (51,424):=by kernel_rfl
theorem Tryz.zero217:((Tryz.prog.info? 217).bind (·.zero)).map (·.cells.size)=some 51:=by kernel_rfl
theorem Tryz.under152:Tryz.prog.underlying 152=some (.slice 217):=by kernel_rfl
theorem zk5:∃ i z,Tryz.prog.info? 217=some i∧i.zero=some z∧i.size=51∧i.bytes=424∧z.cells.size=51:=by
 have h1:=Tryz.info217
 have h2:=Tryz.zero217
 cases hi:Tryz.prog.info? 217 with
 | none=>rw [hi] at h1;cases h1
 | some i =>
  rw [hi] at h1 h2
  simp only [Option.map_some,Option.some.injEq,Prod.mk.injEq,Option.bind_some] at h1 h2
  cases hz:i.zero with
  | none=>rw [hz] at h2;cases h2
  | some z =>
   rw [hz] at h2
   simp only [Option.map_some,Option.some.injEq] at h2
   exact⟨i,z,rfl,hz,h1.1,h1.2,h2⟩
section
variable {P:Program} {md:Region.Mode} {ops:Array Oper} {Q:Exit→Act→World→Prop} {fuel:Nat} {listed:Array Bool} {a:Act} {w:World}
theorem zds(i:Nat){o:Oper}(hr:Region.ready md ops listed=[i])(ho:ops[i]?=some o)(hg:o.guard=none)(v:Value)(w':World)(h:(execOp a.eval o).run P w=.ok (.value v) w')(rest:wpAny P md ops Q fuel (listed.setIfInBounds i true) (a.put o.dst v) w'):wpAny P md ops Q (fuel+1) listed a w :=
 wpAny_ready hr (by simp) (AllReady.cons ho (fun K hK=>by
  have hw:Region.wanted o (yielded ops a.tmps)=true:=by simp [Region.wanted,hg]
  rw [if_pos hw];unfold Oper.wp;rw [h];exact hK _ _ rest) AllReady.nil)
theorem zwr(i:Nat){o:Oper}(hr:Region.ready md ops listed=[i])(ho:ops[i]?=some o)(hg:o.guard=none)(w':World)(h:(execOp a.eval o).run P w=.ok .skip w')(rest:wpAny P md ops Q fuel (listed.setIfInBounds i true) (a.put o.dst undef) w'):wpAny P md ops Q (fuel+1) listed a w :=
 wpAny_ready hr (by simp) (AllReady.cons ho (fun K hK=>by
  have hw:Region.wanted o (yielded ops a.tmps)=true:=by simp [Region.wanted,hg]
  rw [if_pos hw];unfold Oper.wp;rw [h];exact hK _ _ rest) AllReady.nil)
theorem zt8(i j:Nat){o p:Oper}(hr:Region.ready md ops listed=[i,j])(ho:ops[i]?=some o)(hg:o.guard=none)(v:Value)(w':World)(h:(execOp a.eval o).run P w=.ok (.value v) w')(rest:wpAny P md ops Q fuel (listed.setIfInBounds i true) (a.put o.dst v) w')
  (hp:ops[j]?=some p) (hg2:p.guard=none) (u:Value) (w2:World) (h2:(execOp a.eval p).run P w=.ok (.value u) w2) (rest2:wpAny P md ops Q fuel (listed.setIfInBounds j true) (a.put p.dst u) w2):wpAny P md ops Q (fuel+1) listed a w :=
 wpAny_ready hr (by simp) (AllReady.cons ho (fun K hK=>by
  have hw:Region.wanted o (yielded ops a.tmps)=true:=by simp [Region.wanted,hg]
  rw [if_pos hw];unfold Oper.wp;rw [h];exact hK _ _ rest) (AllReady.cons hp (fun K hK=>by
  have hw:Region.wanted p (yielded ops a.tmps)=true:=by simp [Region.wanted,hg2]
  rw [if_pos hw];unfold Oper.wp;rw [h2];exact hK _ _ rest2) AllReady.nil))
theorem zhh(ty:TypeId)(x:Operand){o:Oper}(ho:o.op=.load ty x)(b f:Nat)(hx:a.eval x=.pointer (some ⟨b,f,none⟩))(cs:List Value)(d:TypeDesc)(hc:w.rangeAt b f cs)
  (hu:P.underlying ty=some d) (hd:d.isRow=true) (hi:(P.info? ty).map (·.size)=some cs.length):(execOp a.eval o).run P w=.ok (.value (.agg cs.toArray)) w:=by
 unfold execOp
 simp only [ho,hx,Instr.loadAt,Instr.sureAddr,Sem.run_bind,Sem.run_pure,Result.andThen_ok,run_loadVar_mid _ b f ty cs d hc hu hd hi]
end
theorem zeg{a:Act}{o:Oper}(x:Operand)(ho:o.op=.buildSlice 152 1 #[(0,x)])(cs:List Value)(hx:a.eval x=.agg cs.toArray)(h:cs.length=51)(W:World):(execOp a.eval o).run Tryz.prog W=.ok (.value (.slice (some ⟨W.heap.size,0,none⟩) 1 1)) (W.alloc (.cells cs.toArray 217)):=by
 unfold execOp
 simp only [ho,Sem.run_bind]
 have:=zz5 W cs h
 simp only [List.map_toArray,List.map_cons,List.map_nil,hx,this,Sem.run_pure,Result.andThen_ok]
theorem zcc{w w':World}{B e size n:Nat}{v:Value}{l:List Value}(h:w.ownsRow B e size v n l)(hb:∀ q,v.ownBlock=some q→w'.heap[q]?=w.heap[q]?):w'.ownsRow B e size v n l:=by
 refine⟨h.1,?_⟩
 rcases h.2 with hn|⟨g,cap,cur,rfl,hB,hg,rest⟩
 ·exact .inl hn
 ·exact .inr ⟨g,cap,cur,rfl,hB,(hb g rfl).trans hg,rest⟩
def mk0:Mk:=⟨none,0,kn0⟩
def Rs.see(R:Rs)(m:Mk):Rs:=⟨if zbC R.steps then R.marked++[m] else R.marked,R.steps,R.seen+1,R.covers&&(!zbC R.steps&&(decide (R.seen<R.marked.length)&&zci m.k (R.marked.getD R.seen mk0).k))⟩
def zda(w:World)(S o B:Nat)(mv:Value)(R:Rs):Ending→World→Prop:=fun e w'=>e=.returned (.tuple #[])∧∃ mv',RsC w' S o mv' R∧w'.ownsRow B 217 51 mv' R.marked.length (zbh R.marked)∧(∀ q,mv'.ownBlock=some q→mv.ownBlock=some q∨w.heap.size≤q)∧Kept4 w w' S o mv.ownBlock
theorem znM{w w':World}{S o:Nat}{hb:Option Nat}(hS:S<w.heap.size)(hne:hb≠some S)(h:w.grownBy w' hb):Kept4 w w' S o hb :=
 ⟨h.os,h.tape,h.output,h.size,fun q hq _ h2=>h.block q hq h2,fun j _ _ _ _=>World.cell?_of_block (a:=⟨S,j,none⟩) (h.block S hS (fun e=>hne e.symm)),fun j=>World.frozen?_of_block (a:=⟨S,j,none⟩) (h.block S hS (fun e=>hne e.symm))⟩
theorem zyq(W:World)(cs:List Value):∀(j:Nat) u,cs[j]?=some u→(W.alloc (.cells cs.toArray 217)).cell? ((⟨W.heap.size,0,none⟩:Addr).add j)=some u:=by
 intro j u hj
 rw [Addr.add_mid,Nat.zero_add,World.cell?_alloc_new (w:=W) cs.toArray 217 j,List.getElem?_toArray]
 exact hj
end
end Go.Proofs.YtfpgjkbjbbgciaaGreatDoor
