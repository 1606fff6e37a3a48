import Derived.Test.YtfpgjkbjbbgciaaGreatDoorMi33
set_option maxRecDepth 100000
set_option maxHeartbeats 8000000
namespace Go.Proofs.YtfpgjkbjbbgciaaGreatDoor
open Go.RowKit Sp
section
attribute [local go_sem ↓] Go.wp_at_zero Go.wp_at_succ
def zuJ(z:Int)(i:Nat):Int:=if i=0 then 0 else if i=1 then 1 else if i=2 then -1 else if i=3 then 7 else if i=4 then 4611686018427387904 else if i=5 then 9223372036854775807 else if i=6 then -9223372036854775808 else z
theorem zuK{z:Int}(hz:i64 z)(i:Nat):i64 (zuJ z i):=by
 unfold zuJ
 repeat' split
 all_goals first|exact hz|exact⟨by omega,by omega⟩
theorem zrF{w2 w3:World}{z:Int}{i px:Nat}(hi:(i:Int)<8)(hpx:px<w2.heap.size)(g3:(w2.alloc (.cells #[.int .i64 0,.int .i64 1,.int .i64 (-1),.int .i64 7,.int .i64 4611686018427387904,.int .i64 9223372036854775807,.int .i64 (-9223372036854775808),.int .i64 z] 2)).grownBy w3 (some px)):w3.cell? ⟨w2.heap.size,i,none⟩=some (.int .i64 (zuJ z i)):=by
 have e:=g3.block w2.heap.size (by simp) (fun e=>by have:=Option.some.inj e;omega)
 rw [World.cell?_of_block (a:=⟨w2.heap.size,i,none⟩) e,World.cell?_alloc_new]
 have hi2:i=0∨i=1∨i=2∨i=3∨i=4∨i=5∨i=6∨i=7:=by omega
 rcases hi2 with rfl|rfl|rfl|rfl|rfl|rfl|rfl|rfl <;> rfl
theorem zuL(w3:World){z:Int}{i:Nat}(hi:(i:Int)<8):(w3.alloc (.cells #[.int .i64 0,.int .i64 1,.int .i64 (-1),.int .i64 7,.int .i64 4611686018427387904,.int .i64 9223372036854775807,.int .i64 (-9223372036854775808),.int .i64 z] 2)).cell? ⟨w3.heap.size,i,none⟩=some (.int .i64 (zuJ z i)):=by
 rw [World.cell?_alloc_new]
 have hi2:i=0∨i=1∨i=2∨i=3∨i=4∨i=5∨i=6∨i=7:=by omega
 rcases hi2 with rfl|rfl|rfl|rfl|rfl|rfl|rfl|rfl <;> rfl
def PCut(R:Act→World→Prop):Exit→Act→World→Prop
 | .normal,a,w=>R a w
 | _,_,_=>False
theorem zx3{P:Program}{c:Code}{Q:Exit→Act→World→Prop}{a:Act}{w:World}(R:Act→World→Prop)(h:∀ a w,R a w→Q .normal a w)(hw:c.wp P (PCut R) a w):c.wp P Q a w :=
 Code.wp_mono (fun e a w hq=>by cases e <;> first|exact h _ _ hq|exact(show False from hq).elim) hw
def aluB(i:Nat):ByteArray:=ba (aluW i++[32])
abbrev aluO:Obj:=.cells #[.string ⟨#[97,100,100,32]⟩,.string ⟨#[115,117,98,32]⟩,.string ⟨#[109,117,108,32]⟩] 9
theorem zcR{w:World}{q i:Nat}(h:w.heap[q]?=some aluO)(hi:(i:Int)<3):w.cell? ⟨q,i,none⟩=some (.string (aluB i)):=by
 have hi2:i=0∨i=1∨i=2:=by omega
 rw [cell_of_row w q i _ _ _ h]
 rcases hi2 with rfl|rfl|rfl <;> rfl
theorem zjg(i:Nat):(aluB i).size=4:=by
 unfold aluB aluW
 split
 ·rfl
 ·split <;> rfl
theorem zpA(i:Nat){r c d:Nat}{A1 A2 A3:ByteArray}(h1:Hid (A1=ba (regW r)))(h2:Hid (A2=ba (regW c)))(h3:Hid (A3=ba (regW d))):ba (aluL i r c d).bytes=ba [9]++(aluB i++A1++⟨#[32]⟩++A2++⟨#[32]⟩++A3):=by
 rw [show A1=_ from h1,show A2=_ from h2,show A3=_ from h3]
 exact ln3 _ _ _ _
theorem zmC(i:Nat){A1 A2 A3:ByteArray}(h1:A1.size=2)(h2:A2.size=2)(h3:A3.size=2):(aluB i++A1++(⟨#[32]⟩:ByteArray)++A2++(⟨#[32]⟩:ByteArray)++A3).size≤1000:=by
 have:=zjg i
 have e:(⟨#[32]⟩:ByteArray).size=1:=rfl
 simp only [ByteArray.size_append]
 omega
theorem zdu(w:World){i:Nat}(hi:(i:Int)<3):(w.alloc (.cells #[.string ⟨#[97,100,100,32]⟩,.string ⟨#[115,117,98,32]⟩,.string ⟨#[109,117,108,32]⟩] 9)).cell? ⟨w.heap.size,i,none⟩=some (.string (aluB i)):=zcR (heap_alloc_new w _) hi
theorem zmD{w w':World}{r:Option Nat}(h:w.drew.grownBy w' r):w.grownBy w' r:=⟨h.os,h.tape,h.output,h.size,h.block⟩
theorem zdB(w:World){x:Obj}:w.heap.size<(w.alloc x).heap.size:=by simp
theorem zxb{w w':World}{x:Obj}{r:Option Nat}(g:(w.alloc x).grownBy w' r):w.heap.size+1≤w'.heap.size:=by
 have:=g.size
 simpa using this
theorem zuM{w w':World}{x:Obj}{px:Nat}(g:(w.alloc x).grownBy w' (some px))(h:px<w.heap.size):w'.heap[w.heap.size]?=some x :=
 (g.block _ (zdB w) (fun e=>by have:=Option.some.inj e;omega)).trans (heap_alloc_new w x)
theorem WrM.newNot{B:Nat}{w:World}{b px:Nat}{cv:Value}{code:List Int}{S:Wst}{k:Nat}{V:Nat→Value}(h:WrM B w b px cv code S k V):¬Mine b px V w.heap.size:=fun hm=>by
 rcases hm with e|e|e|e
 ·have:=h.blk.lt;omega
 ·have:=h.blk.di.lt;omega
 ·have:=(h.lines.lt _ e).2;omega
 ·have:=(h.counts.lt _ e).2;omega
theorem zkJ{B:Nat}{w:World}{b px:Nat}{cv:Value}{code:List Int}{S:Wst}{k:Nat}{V:Nat→Value}(M:WrM B w b px cv code S k V)(rf:Nat)(hrf:rf<8)(hf:S.held rf=false)(hn:S.lines.length≤10000):
  Calls Tryz.prog 94 #[.pointer (some ⟨b,0,none⟩)] w fun e w'=>e=.returned (.int .i64 1)∧∃ l,Plain l∧zd4 B w b px cv code V { S with lines:=S.lines++[l] } w':=by
 have c0:=M.cx
 obtain⟨V0,hV0⟩:∃ V0,V0=V:=⟨V,rfl⟩
 have F:Fr b px w V0 w V:=by rw [hV0];exact Fr.refl b px w V
 go_enter Tryz.func94,Tryz.ntmps94
 go_wp2_with(first
  | (go_at_call 41;(with_reducible refine(zax M 8 (by omega)).mono ?_);rintro e w1 ⟨c,rfl,hc,k,V,M,hb1⟩;have F:=F.trans hb1;have c0:=M.cx))
 have H1:=c0
 rename_i c1 hc1 _ _ _ _ _ _ _ _
 refine zx3 (fun a' W=>∃(K:Int) (u1 u2 u3 u4 u5:Value) (k':Nat) (V':Nat→Value),a'=⟨#[.pointer (some ⟨b,0,none⟩),undef,.int .i64 0,.int .i64 (c1:Int),.int .i64 (c:Int),.int .i64 K,.pointer (some ⟨b,0,none⟩),.pointer (some ⟨b,0,none⟩),.pointer (some ⟨b,0,none⟩),.pointer (some ⟨px,0,none⟩),.int .i64 (c1:Int),.pointer (some ⟨b,0,none⟩),.pointer (some ⟨b,0,none⟩),.pointer (some ⟨b,0,none⟩),.pointer (some ⟨px,0,none⟩),.int .i64 (c:Int),.pointer (some ⟨b,0,none⟩),.pointer (some ⟨b,0,none⟩),.pointer (some ⟨b,0,none⟩),.pointer (some ⟨px,0,none⟩),u1,u2,.pointer (some ⟨b,0,none⟩),.pointer (some ⟨b,0,none⟩),.pointer (some ⟨b,0,none⟩),.pointer (some ⟨px,0,none⟩),u3,u4,u5,undef,undef,undef,undef,undef,undef,undef,undef,undef,undef,undef,undef,undef,undef,undef,undef,undef,undef,undef,undef,undef,undef,undef,undef,undef,undef,undef,undef,undef,undef,undef,undef,undef,undef,undef,undef,undef,undef,undef,undef,undef,undef,undef,undef,undef,undef,undef,undef,undef,undef,undef,undef,undef,undef,undef,undef,undef,undef,undef,undef,undef,undef,undef,undef,undef,undef,undef,undef,undef,undef,undef,undef,undef,undef,undef,undef,undef,undef],[]⟩∧i64 K∧WrM B W b px cv code S k' V'∧Fr b px w V0 W V') ?_ ?_
 ·subst hV0
  rintro a' W ⟨K,u1,u2,u3,u4,u5,k3,V3,rfl,hK,M3,F3⟩
  have c3:=M3.cx
  go_wp2_with(first
   | (go_at_call 41;(with_reducible refine(zax M3 7 (by omega)).mono ?_);rintro e w4 ⟨s,rfl,hs,k4,V4,M4,f4⟩;have F4:=F3.trans f4;refine Hid.out ?_))
  unfold Hid
  have hc1:c1<8:=by omega
  have hc2:c<8:=by omega
  have hs7:s=0∨s=1∨s=2∨s=3∨s=4∨s=5∨s=6:=by omega
  clear H1 c0 F3 f4 c3
  rcases hs7 with rfl|rfl|rfl|rfl|rfl|rfl|rfl
  ·skip
   go_wp2_with(first
    | (go_at_call 118;(with_reducible refine(zcf M4 rf hrf hf).mono ?_);rintro e w5 ⟨r,rfl,hr,hh,k5,V5,M5,f5⟩;have F5:=F4.trans f5)
    | (go_at_call 38;(with_reducible refine(zbo r hr _).mono ?_);rintro e w6 ⟨A,rfl,zA,hA,hbA⟩;have M6:=M5.below hbA M5.base;have F6:=F5.trans (.low hbA))
    | (go_at_call 36;(with_reducible refine(zfl K hK _).mono ?_);rintro e w7 ⟨D,rfl,zD,hD,hbD⟩;have M7:=M6.below hbD M6.base;have F7:=F6.trans (.low hbD))
    | (go_at_call 62;refine Hid.out ?_))
   unfold Hid
   refine(zbE M7 (setL r K) _ (by rw [Hid.out2 hA,Hid.out2 hD];exact ln2 _ _ _) (by simp only [ByteArray.size_append];show 4+A.size+1+D.size≤1000;omega) (by omega)).mono ?_
   rintro e w8 ⟨rfl,k8,V8,M8,f8⟩
   dsimp only
   go_wp2
   go_ret
   exact⟨rfl,_,zeG hr hK,k8,V8,M8,F7.trans f8⟩
  ·skip
   go_wp2_with(first
    | (go_at_call 118;(with_reducible refine(zcf M4 rf hrf hf).mono ?_);rintro e w5 ⟨r,rfl,hr,hh,k5,V5,M5,f5⟩;have F5:=F4.trans f5)
    | (go_at_call 38;first
        | ((with_reducible refine(zbo r hr _).mono ?_);rintro e w6 ⟨A,rfl,zA,hA,hbA⟩;have M6:=M5.below hbA M5.base;have F6:=F5.trans (.low hbA))
        | ((with_reducible refine(zbo c1 hc1 _).mono ?_);rintro e w7 ⟨D,rfl,zD,hD,hbD⟩;have M7:=M6.below hbD M6.base;have F7:=F6.trans (.low hbD)))
    | (go_at_call 62;refine Hid.out ?_))
   unfold Hid
   refine(zbE M7 (movL r c1) _ (by rw [Hid.out2 hA,Hid.out2 hD];exact ln2 _ _ _) (by simp only [ByteArray.size_append];show 4+A.size+1+D.size≤1000;omega) (by omega)).mono ?_
   rintro e w8 ⟨rfl,k8,V8,M8,f8⟩
   dsimp only
   go_wp2
   go_ret
   exact⟨rfl,_,zuB hr hc1,k8,V8,M8,F7.trans f8⟩
  ·have c4:=M4.cx
   have lb:=M4.blk.lt
   have H0:w4.drew.cell? ⟨b,0,none⟩=some (.pointer (some ⟨px,0,none⟩)):=c4
   have M:=M4.drew
   have F5:=F4.trans (Fr.low (Below.refl _ _).drew)
   go_wp2_with fail
   refine zx3 (fun a' W=>∃(l:Ln) (x65 x66 x67 x68 x69 x70 x71 x72 x73 x74 x75 x76 x77 x78 x79 x80 x81 x82 x83 x84 x85 x86:Value) (k':Nat) (V':Nat→Value),a'=⟨#[.pointer (some ⟨b,0,none⟩),undef,.int .i64 0,.int .i64 (c1:Int),.int .i64 (c:Int),.int .i64 K,.pointer (some ⟨b,0,none⟩),.pointer (some ⟨b,0,none⟩),.pointer (some ⟨b,0,none⟩),.pointer (some ⟨px,0,none⟩),.int .i64 (c1:Int),.pointer (some ⟨b,0,none⟩),.pointer (some ⟨b,0,none⟩),.pointer (some ⟨b,0,none⟩),.pointer (some ⟨px,0,none⟩),.int .i64 (c:Int),.pointer (some ⟨b,0,none⟩),.pointer (some ⟨b,0,none⟩),.pointer (some ⟨b,0,none⟩),.pointer (some ⟨px,0,none⟩),u1,u2,.pointer (some ⟨b,0,none⟩),.pointer (some ⟨b,0,none⟩),.pointer (some ⟨b,0,none⟩),.pointer (some ⟨px,0,none⟩),u3,u4,u5,.pointer (some ⟨b,0,none⟩),.pointer (some ⟨b,0,none⟩),.pointer (some ⟨b,0,none⟩),.pointer (some ⟨px,0,none⟩),.int .i64 ((2:Nat):Int),undef,undef,undef,undef,undef,.bool false,.bool false,undef,undef,undef,undef,undef,undef,undef,undef,undef,undef,.bool false,.bool false,undef,undef,undef,undef,undef,undef,undef,undef,undef,undef,.bool true,.bool true,x65,x66,x67,x68,x69,x70,x71,x72,x73,x74,x75,x76,x77,x78,x79,x80,x81,x82,x83,x84,x85,x86,undef,undef,undef,undef,undef,undef,undef,undef,undef,undef,undef,undef,undef,undef,undef,undef,undef,undef,undef,undef],[]⟩∧Plain l∧WrM B W b px cv code { S with lines:=S.lines++[l] } k' V'∧Fr b px w V0 W V') ?_ ?_
   ·rintro a' W ⟨l,x65,x66,x67,x68,x69,x70,x71,x72,x73,x74,x75,x76,x77,x78,x79,x80,x81,x82,x83,x84,x85,x86,k8,V8,rfl,hP,M8,F8⟩
    go_wp2
    go_ret
    exact⟨rfl,l,hP,k8,V8,M8,F8⟩
   ·go_region_with(first
     | (go_at_call 41;first
         | ((with_reducible refine(zeF M.blk.di 3 (by omega)).mono ?_);rintro e w5 ⟨i,rfl,hi,k5,D5,g5⟩;have F5:=F5.trans (Fr.grown g5);have M:=M.threw D5 g5;have lb:=M.blk.lt;have hi0:(0:Int)≤(i:Int):=Int.natCast_nonneg _;have hnew:=zdu w5 hi;have hab:=zjg i)
         | ((with_reducible refine(zeF (M4.alloc _).drew.blk.di 3 (by omega)).mono ?_);rintro e w5 ⟨i,rfl,hi,k5,D5,g5⟩;have g5:=zmD g5;have hq:=zuM g5 M4.blk.di.lt;have hql:=Nat.lt_of_lt_of_le (Nat.lt_succ_self _) (zxb g5);have F5:=(F4.trans (Fr.low ((Below.refl _ _).alloc (Nat.le_refl _) _))).trans (Fr.grown g5);have hm:=M4.newNot;have M:=(M4.alloc _).threw D5 g5;have lb:=M.blk.lt;have hi0:(0:Int)≤(i:Int):=Int.natCast_nonneg _;have hel:=zcR hq hi;have hab:=zjg i))
     | (go_at_call 118;first
         | ((with_reducible refine(zcf M rf hrf hf).mono ?_);rintro e w6 ⟨r,rfl,hr,hh,k6,V6,M6,f6⟩;(try have hq:=(f6.keep _ hql hm).trans hq);(try have hm:=fun e=>hm (f6.mine _ hql e));(try have hql:=Nat.lt_of_lt_of_le hql f6.size);have F5:=F5.trans f6;have M:=M6;have lb:=M6.blk.lt;(try have hel:=zcR hq hi);have hnew:=zdu w6 hi)
         | ((with_reducible refine(zcf (M.alloc _) rf hrf hf).mono ?_);rintro e w6 ⟨r,rfl,hr,hh,k6,V6,M6,f6⟩;have hq:=(f6.keep _ (zdB _) M.newNot).trans (heap_alloc_new _ _);have hm:=fun e=>M.newNot (f6.mine _ (zdB _) e);have hql:=Nat.lt_of_lt_of_le (zdB _) f6.size;have F5:=(F5.trans (Fr.low ((Below.refl _ _).alloc (Nat.le_refl _) _))).trans f6;have M:=M6;have lb:=M6.blk.lt;have hel:=zcR hq hi))
     | (go_at_call 38;first
         | ((with_reducible refine(zbo r hr _).mono ?_);rintro e w7 ⟨A1,rfl,zA1,hA1,hbA⟩;first
             | (have M7:=M.below hbA M.base;(try have hq:=(hbA.block _ hql).trans hq);(try have hql:=Nat.lt_of_lt_of_le hql hbA.size);have F5:=F5.trans (.low hbA);have M:=M7;have lb:=M7.blk.lt;(try have hel:=zcR hq hi);have hnew:=zdu w7 hi)
             | (have M7:=(M.alloc _).below hbA (M.alloc _).base;have hq:=(hbA.block _ (zdB _)).trans (heap_alloc_new _ _);have hm:=M.newNot;have hql:=Nat.lt_of_lt_of_le (zdB _) hbA.size;have F5:=(F5.trans (Fr.low ((Below.refl _ _).alloc (Nat.le_refl _) _))).trans (.low hbA);have M:=M7;have lb:=M7.blk.lt;have hel:=zcR hq hi))
         | ((with_reducible refine(zbo c1 hc1 _).mono ?_);rintro e w7 ⟨A2,rfl,zA2,hA2,hbA⟩;first
             | (have M7:=M.below hbA M.base;(try have hq:=(hbA.block _ hql).trans hq);(try have hql:=Nat.lt_of_lt_of_le hql hbA.size);have F5:=F5.trans (.low hbA);have M:=M7;have lb:=M7.blk.lt;(try have hel:=zcR hq hi);have hnew:=zdu w7 hi)
             | (have M7:=(M.alloc _).below hbA (M.alloc _).base;have hq:=(hbA.block _ (zdB _)).trans (heap_alloc_new _ _);have hm:=M.newNot;have hql:=Nat.lt_of_lt_of_le (zdB _) hbA.size;have F5:=(F5.trans (Fr.low ((Below.refl _ _).alloc (Nat.le_refl _) _))).trans (.low hbA);have M:=M7;have lb:=M7.blk.lt;have hel:=zcR hq hi))
         | ((with_reducible refine(zbo c hc2 _).mono ?_);rintro e w7 ⟨A3,rfl,zA3,hA3,hbA⟩;first
             | (have M7:=M.below hbA M.base;(try have hq:=(hbA.block _ hql).trans hq);(try have hql:=Nat.lt_of_lt_of_le hql hbA.size);have F5:=F5.trans (.low hbA);have M:=M7;have lb:=M7.blk.lt;(try have hel:=zcR hq hi);have hnew:=zdu w7 hi)
             | (have M7:=(M.alloc _).below hbA (M.alloc _).base;have hq:=(hbA.block _ (zdB _)).trans (heap_alloc_new _ _);have hm:=M.newNot;have hql:=Nat.lt_of_lt_of_le (zdB _) hbA.size;have F5:=(F5.trans (Fr.low ((Below.refl _ _).alloc (Nat.le_refl _) _))).trans (.low hbA);have M:=M7;have lb:=M7.blk.lt;have hel:=zcR hq hi)))
     | (go_at_call 62;first
         | ((with_reducible refine(zbE M (aluL i r c1 c) _ (zpA i hA1 hA2 hA3) (zmC i zA1 zA2 zA3) (by omega)).mono ?_);rintro e w8 ⟨rfl,k8,V8,M8,f8⟩;have F8:=F5.trans f8)
         | ((with_reducible refine(zbE (M.alloc _) (aluL i r c1 c) _ (zpA i hA1 hA2 hA3) (zmC i zA1 zA2 zA3) (by omega)).mono ?_);rintro e w8 ⟨rfl,k8,V8,M8,f8⟩;have F8:=(F5.trans (Fr.low ((Below.refl _ _).alloc (Nat.le_refl _) _))).trans f8)))
    all_goals exact⟨aluL i r c1 c,_,_,_,_,_,_,_,_,_,_,_,_,_,_,_,_,_,_,_,_,_,_,k8,V8,rfl,zuC i hr hc1 hc2,M8,F8⟩
  ·skip
   go_wp2_with(first
    | (go_at_call 118;(with_reducible refine(zcf M4 rf hrf hf).mono ?_);rintro e w5 ⟨r,rfl,hr,hh,k5,V5,M5,f5⟩;have F5:=F4.trans f5)
    | (go_at_call 38;(with_reducible refine(zbo r hr _).mono ?_);rintro e w6 ⟨A,rfl,zA,hA,hbA⟩;have M6:=M5.below hbA M5.base;have F6:=F5.trans (.low hbA))
    | (go_at_call 36;(with_reducible refine(zfl K hK _).mono ?_);rintro e w7 ⟨D,rfl,zD,hD,hbD⟩;have M7:=M6.below hbD M6.base;have F7:=F6.trans (.low hbD))
    | (go_at_call 62;refine Hid.out ?_))
   unfold Hid
   refine(zbE M7 (incL r K) _ (by rw [Hid.out2 hA,Hid.out2 hD];exact ln2 _ _ _) (by simp only [ByteArray.size_append];show 4+A.size+1+D.size≤1000;omega) (by omega)).mono ?_
   rintro e w8 ⟨rfl,k8,V8,M8,f8⟩
   dsimp only
   go_wp2
   go_ret
   exact⟨rfl,_,zm7 hr hK,k8,V8,M8,F7.trans f8⟩
  ·skip
   go_wp2_with(first
    | (go_at_call 118;(with_reducible refine(zcf M4 rf hrf hf).mono ?_);rintro e w5 ⟨r,rfl,hr,hh,k5,V5,M5,f5⟩;have F5:=F4.trans f5)
    | (go_at_call 38;(with_reducible refine(zbo r hr _).mono ?_);rintro e w6 ⟨A,rfl,zA,hA,hbA⟩;have M6:=M5.below hbA M5.base;have F6:=F5.trans (.low hbA))
    | (go_at_call 62;refine Hid.out ?_))
   unfold Hid
   refine(zbE M6 (zzF r) _ (by rw [Hid.out2 hA];exact ln1 _ _) (by simp only [ByteArray.size_append];show 5+A.size≤1000;omega) (by omega)).mono ?_
   rintro e w8 ⟨rfl,k8,V8,M8,f8⟩
   dsimp only
   go_wp2
   go_ret
   exact⟨rfl,_,zr9 hr,k8,V8,M8,F6.trans f8⟩
  ·skip
   go_wp2_with(first
    | (go_at_call 38;(with_reducible refine(zbo c1 hc1 _).mono ?_);rintro e w6 ⟨A,rfl,zA,hA,hbA⟩;have M6:=M4.below hbA M4.base;have F6:=F4.trans (.low hbA))
    | (go_at_call 62;refine Hid.out ?_))
   unfold Hid
   refine(zbE M6 (zuA c1) _ (by rw [Hid.out2 hA];exact ln1 _ _) (by simp only [ByteArray.size_append];show 6+A.size≤1000;omega) (by omega)).mono ?_
   rintro e w8 ⟨rfl,k8,V8,M8,f8⟩
   dsimp only
   go_wp2
   go_ret
   exact⟨rfl,_,zje hc1,k8,V8,M8,F6.trans f8⟩
  ·skip
   go_wp2_with(first
    | (go_at_call 38;(with_reducible refine(zbo c1 hc1 _).mono ?_);rintro e w6 ⟨A,rfl,zA,hA,hbA⟩;have M6:=M4.below hbA M4.base;have F6:=F4.trans (.low hbA))
    | (go_at_call 62;refine Hid.out ?_))
   unfold Hid
   refine(zbE M6 (zuA c1) _ (by rw [Hid.out2 hA];exact ln1 _ _) (by simp only [ByteArray.size_append];show 6+A.size≤1000;omega) (by omega)).mono ?_
   rintro e w8 ⟨rfl,k8,V8,M8,f8⟩
   dsimp only
   go_wp2
   go_ret
   exact⟨rfl,_,zje hc1,k8,V8,M8,F6.trans f8⟩
 ·have H0:w1.drew.cell? ⟨b,0,none⟩=some (.pointer (some ⟨px,0,none⟩)):=H1
  go_region_with(first
   | (go_at_call 121;(with_reducible refine(zx1 M.drew.blk.di).mono ?_);rintro e w2 ⟨z,rfl,hz,k2,D2,g2⟩;have M2:=M.drew.threw D2 g2;have H2:=M2.cx;have lb2:=M2.blk.lt;have F2:=(F.trans (Fr.low (Below.refl _ _).drew)).trans (Fr.grown g2))
   | (go_at_call 41;first
       | ((with_reducible refine(zeF (M2.alloc _).blk.di 8 (by omega)).mono ?_);rintro e w3 ⟨i,rfl,hi,k3,D3,g3⟩;have M3:=(M2.alloc _).threw D3 g3;have hel:=zrF (z:=z) hi M2.blk.di.lt g3;have hi0:(0:Int)≤(i:Int):=Int.natCast_nonneg _;have F3:=(F2.trans (Fr.low ((Below.refl _ _).alloc (Nat.le_refl _) _))).trans (Fr.grown g3))
       | ((with_reducible refine(zeF M2.blk.di 8 (by omega)).mono ?_);rintro e w3 ⟨i,rfl,hi,k3,D3,g3⟩;have M3:=(M2.threw D3 g3);have hel:=zuL (z:=z) w3 hi;have hi0:(0:Int)≤(i:Int):=Int.natCast_nonneg _;have F3:=F2.trans (Fr.grown g3))))
  all_goals refine⟨zuJ z i,_,_,_,_,_,k3,V,rfl,zuK hz i,?_,?_⟩
  all_goals first
   | exact M3
   | exact M3.alloc _
   | exact F3
   | exact F3.trans (Fr.low ((Below.refl _ _).alloc (Nat.le_refl _) _))
end
section
attribute [local go_sem ↓] Go.wp_at_zero Go.wp_at_succ
theorem WrM.two{B:Nat}{w:World}{b px:Nat}{cv:Value}{code:List Int}{S:Wst}{k:Nat}{V:Nat→Value}(h:WrM B w b px cv code S k V){v:Value}(hv:V 23=v):w.cell? ⟨b,0,none⟩=some (.pointer (some ⟨px,0,none⟩))∧w.cell? ⟨b,23,none⟩=some v:=⟨h.cx,by rw [←hv];exact h.blk.cell 23 (by omega)⟩
structure SlotAt(w:World)(g o z f:Nat)(G:Nat→Bool):Prop where
 cz:w.cell? ⟨g,o,none⟩=some (.int .i64 (z:Int))
 cg:∀ j,j<8→w.cell? ⟨g,o+(1+j),none⟩=some (.bool (G j))
 cf:w.cell? ⟨g,o+9,none⟩=some (.int .i64 (f:Int))
theorem KnRow.slot{B:Nat}{w:World}{g cap nk:Nat}(h:KnRow B w (.slice (some ⟨g,0,none⟩) nk cap) nk)(i:Nat)(hi:i<nk):∃ z f G,SlotAt w g (i*10) z f G∧z≤(i+1)*2147483648∧f≤i+1:=by
 obtain⟨xs,h1,h2⟩:=h
 obtain⟨⟨z,hz,hz1⟩,hg,f,hf,hf1⟩:=h2 i hi
 have hc:∀ j v,xs[j]?=some v→w.cell? ⟨g,j,none⟩=some v:=fun j v hv=>zd2 h1 j v hv
 refine⟨z,f,fun j=>if hj:j<8 then(hg j hj).choose else false,⟨hc _ _ hz,fun j hj=>?_,hc _ _ hf⟩,hz1,hf1⟩
 rw [dif_pos hj]
 exact hc _ _ (hg j hj).choose_spec
theorem zhC{w:World}{q z f:Nat}{G:Nat→Bool}(h:w.heap[q]?=some (.cells #[.int .i64 (z:Int),.bool (G 0),.bool (G 1),.bool (G 2),.bool (G 3),.bool (G 4),.bool (G 5),.bool (G 6),.bool (G 7),.int .i64 (f:Int)] 113 (0,0))):w.cell? ⟨q,0,none⟩=some (.int .i64 (z:Int))∧(∀ j,j<8→w.cell? ⟨q,1+j,none⟩=some (.bool (G j)))∧w.cell? ⟨q,9,none⟩=some (.int .i64 (f:Int)):=by
 refine⟨by rw [cell_of_row w q 0 _ _ _ h];rfl,fun j hj=>?_,by rw [cell_of_row w q 9 _ _ _ h];rfl⟩
 rw [cell_of_row w q (1+j) _ _ _ h]
 have hj2:j=0∨j=1∨j=2∨j=3∨j=4∨j=5∨j=6∨j=7:=by omega
 rcases hj2 with rfl|rfl|rfl|rfl|rfl|rfl|rfl|rfl <;> rfl
theorem WrM.newNot2{B:Nat}{w:World}{b px:Nat}{cv:Value}{code:List Int}{S:Wst}{k:Nat}{V:Nat→Value}(h:WrM B w b px cv code S k V):¬Mine b px V w.heap.size:=fun hm=>by
 rcases hm with e|e|e|e
 ·have:=h.blk.lt;omega
 ·have:=h.blk.di.lt;omega
 ·have:=(h.lines.lt _ e).2;omega
 ·have:=(h.counts.lt _ e).2;omega
theorem WrM.heldAt{B:Nat}{w:World}{b px:Nat}{cv:Value}{code:List Int}{S:Wst}{k:Nat}{V:Nat→Value}(h:WrM B w b px cv code S k V):∀ j,j<8→w.cell? ⟨b,3+j,none⟩=some (.bool (S.held j)):=fun j hj=>by rw [←h.held j hj];exact h.blk.cell (3+j) (by omega)
theorem zuN{B:Nat}{w w1 w':World}{b px:Nat}{cv:Value}{code:List Int}{V V1:Nat→Value}{S:Wst}(f:Fr b px w V w1 V1)(h:zd4 B w1 b px cv code V1 S w'):zd4 B w b px cv code V S w':=by
 obtain⟨k',V',M,f'⟩:=h
 exact⟨k',V',M,f.trans f'⟩
theorem zmE{i:Nat}{D:ByteArray}(h:Hid (D=ba (digL (i:Int)))):ba (callL i).bytes=ba [9]++((⟨#[99,97,108,108,32,102]⟩:ByteArray)++D):=by
 rw [show D=_ from h,show digL (i:Int)=decL i by unfold digL;rw [if_neg (by omega)];rfl]
 have e:(⟨#[99,97,108,108,32,102]⟩:ByteArray)=ba [99,97,108,108,32,102]:=rfl
 rw [e]
 simp only [zc8]
 refine congrArg ba ?_
 simp [Ln.bytes,Ln.blank,zcj,callL,fnW]
theorem zkK{b px q n:Nat}{V:Nat→Value}{v:Value}(h:¬Mine b px V q)(n1:¬n=1)(n11:¬n=11):¬Mine b px (updV V n v) q:=fun hm=>by
 unfold Mine at hm
 rw [zac _ _ (fun e=>n1 e.symm),zac _ _ (fun e=>n11 e.symm)] at hm
 exact h hm
theorem zgo{c:Array UInt8}{D:ByteArray}(hc:c.size≤10)(h2:D.size≤21):((⟨c⟩:ByteArray)++D).size≤1000:=by
 have e2:(⟨c⟩:ByteArray).size=c.size:=rfl
 simp only [ByteArray.size_append]
 omega
theorem zmF{B:Nat}{w:World}{b px:Nat}{cv:Value}{code:List Int}{S:Wst}{k:Nat}{V:Nat→Value}(M:WrM B w b px cv code S k V)(rf:Nat)(_hrf:rf<8)(_hf:S.held rf=false)(hn:S.lines.length≤10000)(hnk:S.nk≤1000)
  (hpl:∀ W k2 V2,WrM B W b px cv code S k2 V2→Calls Tryz.prog 94 #[.pointer (some ⟨b,0,none⟩)] W fun e w'=>e=.returned (.int .i64 1)∧∃ l,Plain l∧zd4 B W b px cv code V2 { S with lines:=S.lines++[l] } w') :
  Calls Tryz.prog 61 #[.pointer (some ⟨b,0,none⟩)] w fun e w'=>(∃ n:Nat,e=.returned (.int .i64 (n:Int))∧n≤S.nk*2147483648+2)∧PcPost B w b px cv code V S 2 0 w':=by
 have c0:=M.cx
 have c23:=M.blk.cell 23 (by omega)
 obtain⟨xs,hkn,hxs⟩:=M.known
 obtain⟨ao,cap,hv⟩:=zbb hkn
 rw [hv] at c23
 have F:=Fr.refl b px w V
 by_cases h0:S.nk=0
 ·rw [h0] at c23
  have hp:=hpl w k V M
  go_enter Tryz.func61,Tryz.ntmps61
  go_wp2_with(first
   | (go_at_call 94;(with_reducible refine hp.mono ?_);rintro e w1 ⟨rfl,l,hl,h⟩))
  go_ret
  exact⟨⟨1,rfl,by omega⟩,zuD hl h⟩
 ·have hk1:(0:Int)<(S.nk:Int):=by omega
  have hk2:(S.nk:Int)≤1000:=by omega
  go_enter Tryz.func61,Tryz.ntmps61
  go_wp2_with(first
   | (go_at_call 41;(with_reducible refine(zax M 3 (by omega)).mono ?_);rintro e w1 ⟨t,rfl,ht,k1,V1,M1,f1⟩;have F1:=F.trans f1;refine Hid.out ?_))
  unfold Hid
  obtain⟨xs1,hkn1,hxs1⟩:=M1.known
  obtain⟨g,cap1,hv1,hgB,hgl⟩:=hkn1.form (by omega)
  have H1:=M1.two hv1
  obtain⟨c1,d1⟩:=H1
  have H1:=M1.two hv1
  rcases Nat.eq_zero_or_pos t with rfl|htp
  focus
   go_wp2_with fail
   go_region_held3 (fun W=>W.cell? ⟨b,0,none⟩=some (.pointer (some ⟨px,0,none⟩))∧W.cell? ⟨b,23,none⟩=some (.slice (some ⟨g,0,none⟩) S.nk cap1))
    (first
      | exact H1
      | exact H2)
    (first
      | (go_at_call 41;(with_reducible refine(zeF M1.drew.blk.di (S.nk:Int) hk1).mono ?_);rintro e w2 ⟨i,rfl,hi,k2,D2,g2⟩;have M2:=M1.drew.threw D2 g2;have H2:=M2.two hv1;have hi0:(0:Int)≤(i:Int):=Int.natCast_nonneg _))
   have hiN:i<S.nk:=Int.ofNat_lt.1 hi
   have F2:=(F1.trans (Fr.low (Below.refl _ _).drew)).trans (Fr.grown g2)
   have d2:=H2.2
   refine Hid.out ?_
  rotate_left
  focus
   obtain⟨w2,hw2⟩:∃ w2,w2=w1:=⟨w1,rfl⟩
   subst hw2
   obtain⟨i,hi⟩:=Int.eq_ofNat_of_zero_le (show(0:Int)≤(S.nk:Int)-1 by omega)
   rw [hi]
   have hiN:i<S.nk:=by omega
   have hi0:(0:Int)≤(i:Int):=by omega
   have M2:=M1
   have F2:=F1
   have d2:=H1.2
   have ht2:((t:Int) == 0)=false:=by simp;omega
   refine Hid.out ?_
  all_goals
   unfold Hid
   have hi1:(i:Int)<(S.nk:Int):=by omega
   have hi64:=zos i (n:=1000) (by omega) (by decide)
   have c2:=M2.cx
   obtain⟨z,f,G,SL,hz,hf'⟩:=(hv1▸M2.known:KnRow B w2 (.slice (some ⟨g,0,none⟩) S.nk cap1) S.nk).slot i hiN
   have s0:=SL.cz
   have s1:=SL.cg 0 (by omega)
   have s2:=SL.cg 1 (by omega)
   have s3:=SL.cg 2 (by omega)
   have s4:=SL.cg 3 (by omega)
   have s5:=SL.cg 4 (by omega)
   have s6:=SL.cg 5 (by omega)
   have s7:=SL.cg 6 (by omega)
   have s8:=SL.cg 7 (by omega)
   have s9:=SL.cf
   simp only [Nat.reduceAdd] at s1 s2 s3 s4 s5 s6 s7 s8
   have hz2:z≤S.nk*2147483648:=Nat.le_trans hz (Nat.mul_le_mul_right _ hiN)
   have hz3:z≤1000*2147483648:=Nat.le_trans hz2 (Nat.mul_le_mul_right _ hnk)
   go_wp2_with fail
   have MW:=M2.alloc (.cells #[.int .i64 (z:Int),.bool (G 0),.bool (G 1),.bool (G 2),.bool (G 3),.bool (G 4),.bool (G 5),.bool (G 6),.bool (G 7),.int .i64 (f:Int)] 113)
   have FW:=F2.trans (Fr.low ((Below.refl _ _).alloc (Nat.le_refl _) (.cells #[.int .i64 (z:Int),.bool (G 0),.bool (G 1),.bool (G 2),.bool (G 3),.bool (G 4),.bool (G 5),.bool (G 6),.bool (G 7),.int .i64 (f:Int)] 113)))
   have hbox:(w2.alloc (.cells #[.int .i64 (z:Int),.bool (G 0),.bool (G 1),.bool (G 2),.bool (G 3),.bool (G 4),.bool (G 5),.bool (G 6),.bool (G 7),.int .i64 (f:Int)] 113)).heap[w2.heap.size]?=some (.cells #[.int .i64 (z:Int),.bool (G 0),.bool (G 1),.bool (G 2),.bool (G 3),.bool (G 4),.bool (G 5),.bool (G 6),.bool (G 7),.int .i64 (f:Int)] 113 (0,0)):=heap_alloc_new _ _
   have hnot:=M2.newNot2
   have hfl:w2.heap.size<(w2.alloc (.cells #[.int .i64 (z:Int),.bool (G 0),.bool (G 1),.bool (G 2),.bool (G 3),.bool (G 4),.bool (G 5),.bool (G 6),.bool (G 7),.int .i64 (f:Int)] 113)).heap.size:=by simp
   clear s0 s1 s2 s3 s4 s5 s6 s7 s8 s9 SL c2 d2
   generalize w2.alloc (.cells #[.int .i64 (z:Int),.bool (G 0),.bool (G 1),.bool (G 2),.bool (G 3),.bool (G 4),.bool (G 5),.bool (G 6),.bool (G 7),.int .i64 (f:Int)] 113)=W at MW FW hbox hfl ⊢
   generalize w2.heap.size=q at hbox hnot hfl ⊢
   have hheld:=MW.heldAt
   obtain⟨x0,xg,x9⟩:=zhC hbox
   go_loopw [5] (fun t wr=>∃ r:Nat,r≤8∧t=.int .i64 (r:Int)∧wr=W) (fun t _=>8-(intOf t).toNat)
   case atStart=>exact⟨0,by omega,rfl,rfl⟩
   case round =>
    obtain⟨r,hr,rfl,hwr⟩:=hrel
    subst hwr
    by_cases hlt:r<8
    ·have cr:=hheld r hlt
     have gr:=xg r hlt
     have hr0:(0:Int)≤(r:Int):=by omega
     have hr8:(r:Int)<8:=by omega
     clear hheld xg
     cases hh:S.held r with
     | false =>
      rw [hh] at cr
      go_wp2
      go_roundw
      case rel=>exact⟨r+1,by omega,by go_num,trivial⟩
      case measure=>simp [intOf];omega
     | true =>
      rw [hh] at cr
      cases hG:G r with
      | false =>
       rw [hG] at gr
       go_wp2
       go_roundw
       case rel=>exact⟨r+1,by omega,by go_num,trivial⟩
       case measure=>simp [intOf];omega
      | true =>
       rw [hG] at gr
       go_wp2_with(first
        | (go_at_call 94;(with_reducible refine(hpl _ _ _ MW).mono ?_);rintro e w3 ⟨rfl,l,hl,hpo⟩))
       go_ret
       exact⟨⟨1,rfl,by omega⟩,zuD hl (zuN FW hpo)⟩
    ·clear hheld
     go_wp2_with fail
     go_loopw [6] (fun t wr=>∃ r:Nat,r≤8∧t=.int .i64 (r:Int)∧∃ k' V',WrM B wr b px cv code S k' V'∧Fr b px w V wr V'∧wr.heap[q]?=some (.cells #[.int .i64 (z:Int),.bool (G 0),.bool (G 1),.bool (G 2),.bool (G 3),.bool (G 4),.bool (G 5),.bool (G 6),.bool (G 7),.int .i64 (f:Int)] 113 (0,0))∧¬Mine b px V' q∧q<wr.heap.size) (fun t _=>8-(intOf t).toNat)
     case atStart=>exact⟨0,by omega,rfl,_,_,MW,FW,hbox,hnot,hfl⟩
     case round =>
      clear x0 xg x9 hbox
      obtain⟨r,hr,rfl,k3,V3,M3,F3,hq3,hn3,hl3⟩:=hrel
      obtain⟨y0,yg,y9⟩:=zhC hq3
      have hqb:¬q=b:=fun e=>hn3 (.inl e)
      by_cases hlt:r<8
      ·obtain⟨gv,hgv⟩:=M3.gives r hlt
       have cr:=M3.blk.cell (12+r) (by omega)
       rw [hgv] at cr
       have fr:=M3.blk.fz (12+r)
       have gr:=yg r hlt
       have hr0:(0:Int)≤(r:Int):=by omega
       have hr8:(r:Int)<8:=by omega
       clear yg y0 y9
       generalize G r=Gr at gr
       cases gv with
       | true =>
        go_wp2_with fail
        refine zam 17 (by kernel_rfl) (by kernel_rfl) ?_
        simp only [List.take_succ_cons,List.take_zero,List.drop_succ_cons,List.drop_zero]
        repeat(go_big_quiet_step (fail))
        refine wpQuiet_nil ?_
        rintro _ ⟨nr,rfl⟩
        go_wp2
        go_roundw
        case rel=>exact⟨r+1,by omega,by go_num,k3,_,zjc (M3.drewN nr) r hlt true,(F3.trans (Fr.low (zbD _ nr _))).trans ((M3.drewN nr).put_fr (12+r) (.bool true) (by omega) (by omega)),(Below.heap_setCell _ _ _ _ hqb).trans hq3,(zkK hn3 (by omega) (by omega)),by rw [World.size_setCell];exact hl3⟩
        case measure=>simp [intOf];omega
       | false =>
        go_wp2_with fail
        refine zam 17 (by kernel_rfl) (by kernel_rfl) ?_
        simp only [List.take_succ_cons,List.take_zero,List.drop_succ_cons,List.drop_zero]
        repeat(go_big_quiet_step (fail))
        refine wpQuiet_nil ?_
        rintro _ ⟨nr,rfl⟩
        go_wp2
        go_roundw
        case rel=>exact⟨r+1,by omega,by go_num,k3,_,zjc (M3.drewN nr) r hlt Gr,(F3.trans (Fr.low (zbD _ nr _))).trans ((M3.drewN nr).put_fr (12+r) (.bool Gr) (by omega) (by omega)),(Below.heap_setCell _ _ _ _ hqb).trans hq3,(zkK hn3 (by omega) (by omega)),by rw [World.size_setCell];exact hl3⟩
        case measure=>simp [intOf];omega
      ·obtain⟨fr,hfr,hfb⟩:=M3.v22
       have c22:=M3.blk.cell 22 (by omega)
       rw [hfr] at c22
       have z22:=M3.blk.fz 22
       clear yg y0
       have hd0:decide ((fr:Int)<(f:Int)+1)=decide (fr<f+1):=by
        by_cases h:fr<f+1
        ·rw [decide_eq_true h,decide_eq_true];omega
        ·rw [decide_eq_false h,decide_eq_false];omega
       have hf3:f≤1001:=by omega
       go_wp2_with fail
       go_quiet(fail)
       replace M3:=M3.drewN nq
       replace F3:=F3.trans (Fr.low (zbD _ nq _))
       have hq3:(wr.drewN nq).heap[q]?=some (.cells #[.int .i64 (z:Int),.bool (G 0),.bool (G 1),.bool (G 2),.bool (G 3),.bool (G 4),.bool (G 5),.bool (G 6),.bool (G 7),.int .i64 (f:Int)] 113 (0,0)):=hq3
       have hl3:q<(wr.drewN nq).heap.size:=hl3
       have c22:(wr.drewN nq).cell? ⟨b,22,none⟩=some (.int .i64 (fr:Int)):=c22
       have z22:(wr.drewN nq).frozen? ⟨b,22,none⟩=false:=z22
       have y9:(wr.drewN nq).cell? ⟨q,9,none⟩=some (.int .i64 (f:Int)):=y9
       generalize wr.drewN nq=wr at M3 F3 hq3 hl3 c22 z22 y9 ⊢
       by_cases hlt2:fr<f+1
       ·have M5:=zr8 M3 (f+1) (by omega)
        have F5:=F3.trans (M3.put_fr 22 (.int .i64 ((f+1:Nat):Int)) (by omega) (by omega))
        have hq5:(wr.setCell ⟨b,22,none⟩ (.int .i64 ((f+1:Nat):Int))).heap[q]?=_:=(Below.heap_setCell _ _ _ _ hqb).trans hq3
        have hn5:=zkK (v:=.int .i64 ((f+1:Nat):Int)) (n:=22) hn3 (by omega) (by omega)
        have hl5:q<(wr.setCell ⟨b,22,none⟩ (.int .i64 ((f+1:Nat):Int))).heap.size:=by rw [World.size_setCell];exact hl3
        rw [show((f+1:Nat):Int)=(f:Int)+1 by omega] at M5 F5 hq5 hn5 hl5
        have hd:(fr:Int)<(f:Int)+1:=by omega
        go_wp2_with fail
        have hq4:=hq5
        go_wp2_with(first
         | (go_at_call 36;(with_reducible refine(zfl (i:Int) hi64 _).mono ?_);rintro e w6 ⟨D,rfl,zD,hD,hbD⟩;have hz7:=zfm 6 zD (by decide);have M6:=M5.below hbD M5.base;have F6:=F5.trans (.low hbD);have hq6:=(hbD.block q hl5).trans hq4;have hl6:=Nat.lt_of_lt_of_le hl5 hbD.size)
         | (go_at_call 62;(with_reducible refine(zbE M6 (callL i) _ (zmE hD) (zgo (by decide) zD) (by omega)).mono ?_);rintro e w7 ⟨rfl,k7,V7,M7,f7⟩;have hq7:=(f7.keep q hl6 hn5).trans hq6;have x7:=(zhC hq7).1))
        go_ret
        exact⟨⟨z+2,by go_num,by omega⟩,[callL i],S.labels,.call _ hiN,by simp,Nat.le_refl _,k7,V7,M7,F6.trans f7⟩
       ·have M5:=M3
        have F5:=F3
        have hq5:=hq3
        have hn5:=hn3
        have hl5:=hl3
        have hd:¬(fr:Int)<(f:Int)+1:=by omega
        have hq4:=hq5
        go_wp2_with(first
         | (go_at_call 36;(with_reducible refine(zfl (i:Int) hi64 _).mono ?_);rintro e w6 ⟨D,rfl,zD,hD,hbD⟩;have hz7:=zfm 6 zD (by decide);have M6:=M5.below hbD M5.base;have F6:=F5.trans (.low hbD);have hq6:=(hbD.block q hl5).trans hq4;have hl6:=Nat.lt_of_lt_of_le hl5 hbD.size)
         | (go_at_call 62;(with_reducible refine(zbE M6 (callL i) _ (zmE hD) (zgo (by decide) zD) (by omega)).mono ?_);rintro e w7 ⟨rfl,k7,V7,M7,f7⟩;have hq7:=(f7.keep q hl6 hn5).trans hq6;have x7:=(zhC hq7).1))
        go_ret
        exact⟨⟨z+2,by go_num,by omega⟩,[callL i],S.labels,.call _ hiN,by simp,Nat.le_refl _,k7,V7,M7,F6.trans f7⟩
end
end Go.Proofs.YtfpgjkbjbbgciaaGreatDoor
