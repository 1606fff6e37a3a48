import Derived.Test.YtfpgjkbjbbgciaaGreatDoorMi20
import Derived.Test.YtfpgjkbjbbgciaaGreatDoorMi33
set_option maxRecDepth 100000
set_option maxHeartbeats 8000000
namespace Go.Proofs.YtfpgjkbjbbgciaaGreatDoor
open Go.RowKit Sp
section
attribute [local go_sem ↓] Go.wp_at_zero Go.wp_at_succ
structure EndsOk(a b c:Int):Prop where
 a0:-4611686018427387904≤a
 a1:a≤4611686018427387904
 b0:-4611686018427387904≤b
 b1:b≤4611686018427387904
 c0:1≤c
 c1:c≤1000
 few:b-a≤2500*c
def zzJ(B:Nat)(w:World)(b px:Nat)(cv:Value)(code:List Int)(V:Nat→Value)(S:Wst):Ending→World→Prop:=fun e w'=>∃ x y z:Int,e=.returned (.tuple #[.int .i64 x,.int .i64 y,.int .i64 z])∧EndsOk x y z∧zd4 B w b px cv code V S w'
theorem WrM.dp{B:Nat}{w:World}{b px:Nat}{cv:Value}{code:List Int}{S:Wst}{k:Nat}{V:Nat→Value}(h:WrM B w b px cv code S k V):w.cell? ⟨b,20,none⟩=some (.int .i64 (S.deep:Int)):=by rw [←h.v20];exact h.blk.cell 20 (by omega)
theorem zyM{z:Int}(h:i64 z):∃ q,z.tdiv 4=q∧-2305843009213693952≤q∧q≤2305843009213693952:=by
 obtain⟨h1,h2⟩:=h
 have e1:=Int.mul_tdiv_add_tmod z 4
 have e2:=Int.tmod_lt_of_pos z (show(0:Int)<4 by omega)
 have e3:=Int.lt_tmod_of_pos z (show(0:Int)<4 by omega)
 exact⟨_,rfl,by omega,by omega⟩
theorem zou{x:Int}(h0:-9223372036854775808≤x)(h1:x≤9223372036854775807):IntKind.i64.wrap x=x:=by
 rw [zh4]
 unfold w64;omega
theorem zyN{B:Nat}{w:World}{b px:Nat}{cv:Value}{code:List Int}{S:Wst}{k:Nat}{V:Nat→Value}(M0:WrM B w b px cv code S k V):
  Calls Tryz.prog 119 #[.pointer (some ⟨b,0,none⟩)] w (zzJ B w b px cv code V S):=by
 have H1:=M0.cx
 have F0:=Fr.refl b px w V
 go_enter Tryz.func119,Tryz.ntmps119
 go_wp2_with fail
 go_region_held3 (fun W=>W.cell? ⟨b,0,none⟩=some (.pointer (some ⟨px,0,none⟩)))
  (first
    | exact H1
    | exact H2
    | exact H3
    | exact H4)
  (first
    | (go_at_call 41;first
        | ((with_reducible refine(zax M0.drew 20 (by omega)).mono ?_);rintro e w1 ⟨i1,rfl,hi1,k1,V1,M1,f1⟩;have F1:=(F0.trans (Fr.low (Below.refl _ _).drew)).trans f1;have H2:=M1.cx)
        | ((with_reducible refine(zax M1 24 (by omega)).mono ?_);rintro e w2 ⟨i2,rfl,hi2,k2,V2,M2,f2⟩;have F2:=F1.trans f2;have H3:=M2.cx)
        | ((with_reducible refine(zax M2 5 (by omega)).mono ?_);rintro e w3 ⟨i3,rfl,hi3,k3,V3,M3,f3⟩;have F3:=F2.trans f3;have H4:=M3.cx)))
 rw [show IntKind.i64.wrap ((i1:Int)-4)=(i1:Int)-4 from zou (by omega) (by omega),show IntKind.i64.wrap ((i2:Int)-4)=(i2:Int)-4 from zou (by omega) (by omega),show IntKind.i64.wrap (1+(i3:Int))=1+(i3:Int) from zou (by omega) (by omega)]
 obtain⟨a,ha⟩:∃ a:Int,(i1:Int)-4=a:=⟨_,rfl⟩
 obtain⟨b',hb⟩:∃ b':Int,(i2:Int)-4=b':=⟨_,rfl⟩
 obtain⟨cc,hcc⟩:∃ cc:Int,1+(i3:Int)=cc:=⟨_,rfl⟩
 rw [ha,hb,hcc]
 have a0:-4≤a:=by omega
 have a1:a≤15:=by omega
 have b0:-4≤b':=by omega
 have b1:b'≤19:=by omega
 have cc0:1≤cc:=by omega
 have cc1:cc≤5:=by omega
 clear ha hb hcc H1 H2 H3
 have d3:=M3.dp
 have c3:=M3.cx
 go_wp2_with(first
  | (go_at_call 41;(with_reducible refine(zax M3 4 (by omega)).mono ?_);rintro e w4 ⟨t,rfl,ht,k4,V4,M4,f4⟩;have F4:=F3.trans f4;have c4:=M4.cx;have d4:=M4.dp;refine Hid.out ?_))
 unfold Hid
 rcases Nat.eq_zero_or_pos t with rfl|htp
 ·go_wp2_with(first
   | (go_at_call 41;(with_reducible refine(zax M4 2 (by omega)).mono ?_);rintro e w5 ⟨s,rfl,hs,k5,V5,M5,f5⟩;have F5:=F4.trans f5;have c5:=M5.cx;have d5:=M5.dp;refine Hid.out ?_))
  unfold Hid
  have cc1:cc≤1000:=by omega
  have hs2:s=0∨s=1:=by omega
  rcases hs2 with rfl|rfl
  go_wp2_with(first
   | (go_at_call 41;(with_reducible refine(zax M5 1000 (by omega)).mono ?_);rintro e w6 ⟨y,rfl,hy,k6,V6,M6,f6⟩;have F6:=F5.trans f6;have c6:=M6.cx;have d6:=M6.dp)
   | (go_at_call 41;(with_reducible refine(zax M6 30 (by omega)).mono ?_);rintro e w7 ⟨t,rfl,ht,k7,V7,M7,f7⟩;have F7:=F6.trans f7;have c7:=M7.cx;have d7:=M7.dp;refine Hid.out ?_))
  unfold Hid
  obtain⟨cc,hcc⟩:∃ cc:Int,1+(y:Int)=cc:=⟨_,rfl⟩
  rw [hcc]
  have cc0:1≤cc:=by omega
  have cc1:cc≤1000:=by omega
  clear hcc
  refine Hid.out ?_
  rotate_left
  go_wp2_with(first
   | (go_at_call 41;(with_reducible refine(zax M5 30 (by omega)).mono ?_);rintro e w7 ⟨t,rfl,ht,k7,V7,M7,f7⟩;have F7:=F5.trans f7;have c7:=M7.cx;have d7:=M7.dp;refine Hid.out ?_))
  all_goals
   unfold Hid
   have ht3:(t:Int)<2500:=by omega
   clear ht
   by_cases hd:S.deep=0
   rw [hd] at d7
   go_wp2_with(first
    | (go_at_call 41;(with_reducible refine(zax M7 3 (by omega)).mono ?_);rintro e w8 ⟨u,rfl,hu,k8,V8,M8,f8⟩;have F8:=F7.trans f8;have c8:=M8.cx;have d8:=M8.dp;refine Hid.out ?_))
   unfold Hid
   rcases Nat.eq_zero_or_pos u with rfl|hup
   go_wp2_with(first
    | (go_at_call 41;(with_reducible refine(zax M8 2500 (by omega)).mono ?_);rintro e w9 ⟨t,rfl,ht,k9,V9,M9,f9⟩;have F9:=F8.trans f9;have c9:=M9.cx;have d9:=M9.dp;have ht3:=ht)
    | (go_at_call 41;(with_reducible refine(zax M9 5 (by omega)).mono ?_);rintro e w10 ⟨v,rfl,hv,k10,V10,M10,f10⟩;have F10:=F9.trans f10;have c10:=M10.cx;have d10:=M10.dp;refine Hid.out ?_))
   rotate_left
   go_wp2_with(first
    | (go_at_call 41;(with_reducible refine(zax M8 5 (by omega)).mono ?_);rintro e w10 ⟨v,rfl,hv,k10,V10,M10,f10⟩;have F10:=F8.trans f10;have c10:=M10.cx;have d10:=M10.dp;refine Hid.out ?_))
   rotate_left
   have hd2:¬(S.deep:Int)=0:=by omega
   go_wp2_with(first
    | (go_at_call 41;(with_reducible refine(zax M7 5 (by omega)).mono ?_);rintro e w10 ⟨v,rfl,hv,k10,V10,M10,f10⟩;have F10:=F7.trans f10;have c10:=M10.cx;have d10:=M10.dp;refine Hid.out ?_))
   all_goals
    unfold Hid
    have p0:0≤cc*(t:Int):=Int.mul_nonneg (by omega) (by omega)
    have p1:cc*(t:Int)≤2500*cc:=by rw [Int.mul_comm 2500 cc];exact Int.mul_le_mul_of_nonneg_left (by omega) (by omega)
    have p2:cc*(t:Int)≤2500000:=by omega
    have hv5:v=0∨v=1∨v=2∨v=3∨v=4:=by omega
    rcases hv5 with rfl|rfl|rfl|rfl|rfl
    all_goals go_wp2_with(first
     | (go_at_call 121;(with_reducible refine(zyL M10).mono ?_);rintro e w11 ⟨z,rfl,hz,k11,V11,M11,f11⟩;have F11:=F10.trans f11;have c11:=M11.cx;obtain⟨q,hq,q0,q1⟩:=zyM hz)
     | (go_at_call 41;(first|(with_reducible refine(zax M11 cc (by omega)).mono ?_)|(with_reducible refine(zax M10 cc (by omega)).mono ?_));rintro e w12 ⟨x,rfl,hx,k12,V12,M12,f12⟩;(first|have F12:=F11.trans f12|have F12:=F10.trans f12);have hx0:(0:Int)≤(x:Int):=Int.natCast_nonneg _;refine Hid.out ?_))
    all_goals unfold Hid
    all_goals go_wp2
    all_goals(try simp only [Exit.inBlock,Exit.then])
    all_goals refine bodyPost_ret (results_tmp3 rfl _ _ _) rfl ?_
    all_goals exact⟨_,_,_,rfl,⟨by omega,by omega,by omega,by omega,by omega,by omega,by omega⟩,k12,V12,M12,F12⟩
 ·go_wp2
  (try simp only [Exit.inBlock,Exit.then])
  refine bodyPost_ret (results_tmp3 rfl _ _ _) rfl ?_
  exact⟨a,b',cc,rfl,⟨by omega,by omega,by omega,by omega,cc0,by omega,by omega⟩,k4,V4,M4,F4⟩
end
theorem zqN{w:World}(a1 a2:Option Addr)(c1 c2:Nat)(xs ys:List Int)(h1:BhM w a1 c1 xs)(h2:BhM w a2 c2 ys):Calls Tryz.prog 176 #[.slice a1 xs.length c1,.slice a2 ys.length c2] w fun e w'=>e=.returned (.bool (decide (xs=ys)))∧Below w.heap.size w w':=by
 have l1:=h1.len
 have l2:=h2.len
 by_cases hl:xs.length=ys.length
 ·have t0:((xs.length:Int) != (ys.length:Int))=false:=by rw [hl];simp
  have HL:Hid (xs.length=ys.length):=hl
  clear hl
  go_enter Tryz.func176,Tryz.ntmps176
  go_wp2
  go_loopw [13] (fun ti wr=>∃ j:Nat,j≤xs.length∧ti=.int .i64 (j:Int)∧AgreeTo xs ys j∧Below w.heap.size w wr) (fun ti _=>xs.length-(intOf ti).toNat)
  case atStart=>exact⟨0,by omega,rfl,fun i hi=>absurd hi (by omega),Below.refl _ _⟩
  case round =>
   obtain⟨j,hj,rfl,hA,hb⟩:=hrel
   have hj0:(0:Int)≤(j:Int):=by omega
   by_cases hx:j<xs.length
   ·have hx1:(j:Int)<(xs.length:Int):=by omega
    have hy:j<ys.length:=by have:=HL.out;omega
    have hy1:(j:Int)<(ys.length:Int):=by omega
    obtain⟨g1,rfl⟩:=h1.addr (by omega)
    obtain⟨g2,rfl⟩:=h2.addr (by have:=HL.out;omega)
    have HF:∀ W,Below w.heap.size w W→W.cell? ⟨g1,j,none⟩=some (.int .i64 xs[j])∧W.cell? ⟨g2,j,none⟩=some (.int .i64 ys[j]):=fun W hW=>⟨((h1.below hW).cell g1 rfl).2 j xs[j] (List.getElem?_eq_getElem hx),((h2.below hW).cell g2 rfl).2 j ys[j] (List.getElem?_eq_getElem hy)⟩
    by_cases hc:xs[j]=ys[j]
    ·have hc2:(xs[j] != ys[j])=false:=by simpa using hc
     go_wp2
     refine zad 8 (fun W=>Below w.heap.size w W) hb.drew (by kernel_rfl) (by kernel_rfl) ?_
     simp only [List.take_succ_cons,List.take_zero,List.drop_succ_cons,List.drop_zero]
     repeat(refine zab rfl ?_ (fun W hW=>?_) ?_;rotate_left 1;· (obtain⟨f1,f2⟩:=HF W hW;go_simp;with_reducible rfl))
     refine wpQuiet_nil ?_
     intro W hW
     go_wp2
     go_roundw
     case rel=>exact⟨j+1,by omega,by go_num,hA.succ (by rw [List.getElem?_eq_getElem hx,List.getElem?_eq_getElem hy,hc]),hW⟩
     case measure=>simp [intOf];omega
    ·have hc2:(xs[j] != ys[j])=true:=by simpa using hc
     have e0:decide (xs=ys)=false:=by
      rw [decide_eq_false_iff_not]
      intro e
      subst e
      exact hc rfl
     go_wp2
     refine zad 8 (fun W=>Below w.heap.size w W) hb.drew (by kernel_rfl) (by kernel_rfl) ?_
     simp only [List.take_succ_cons,List.take_zero,List.drop_succ_cons,List.drop_zero]
     repeat(refine zab rfl ?_ (fun W hW=>?_) ?_;rotate_left 1;· (obtain⟨f1,f2⟩:=HF W hW;go_simp;with_reducible rfl))
     refine wpQuiet_nil ?_
     intro W hW
     go_wp2
     go_ret
     exact⟨by rw [e0];rfl,hW⟩
   ·have hx2:decide ((j:Int)<(xs.length:Int))=false:=by simpa using hx
    have e0:decide (xs=ys)=true:=by rw [decide_eq_true_iff];have:=HL.out;exact hA.all (by omega) (by omega)
    go_wp2
    go_ret
    exact⟨by rw [e0];rfl,hb⟩
 ·have t0:((xs.length:Int) != (ys.length:Int))=true:=by
   have:¬(xs.length:Int)=(ys.length:Int):=by omega
   simpa using this
  have e0:decide (xs=ys)=false:=by rw [decide_eq_false_iff_not];exact fun e=>hl (by rw [e])
  rw [e0]
  go_enter Tryz.func176,Tryz.ntmps176
  go_wp2
  go_ret
  exact⟨rfl,Below.refl _ _⟩
def covB(f g:Nat→Rg):Nat→Bool
 | 0=>true
 | n+1=>covB f g n&&(g n).within (f n)
theorem zqO{f g:Nat→Rg}{n j:Nat}(hj:j<n)(h:(g j).within (f j)=false):covB f g n=false:=by
 induction n with
 | zero=>omega
 | succ n ih =>
  unfold covB
  by_cases e:j=n
  ·subst e;rw [h,Bool.and_false]
  ·rw [ih (by omega),Bool.false_and]
theorem zmb{w:World}(g1 o1 c1 g2 o2 c2 n:Nat)(f g:Nat→Rg)(hn:n≤16)(h1:∀ r,r<n→w.cell? ⟨g1,o1+r*2,none⟩=some (.int .i64 (f r).lo)∧w.cell? ⟨g1,o1+r*2+1,none⟩=some (.int .i64 (f r).hi))(h2:∀ r,r<n→w.cell? ⟨g2,o2+r*2,none⟩=some (.int .i64 (g r).lo)∧w.cell? ⟨g2,o2+r*2+1,none⟩=some (.int .i64 (g r).hi))(l1:g1<w.heap.size)(l2:g2<w.heap.size):
  Calls Tryz.prog 177 #[.slice (some ⟨g1,o1,none⟩) n c1,.slice (some ⟨g2,o2,none⟩) n c2] w fun e w'=>e=.returned (.bool (covB f g n))∧Below w.heap.size w w':=by
 go_enter Tryz.func177,Tryz.ntmps177
 go_wp2
 go_loopw [9] (fun ti wr=>∃ j:Nat,j≤n∧ti=.int .i64 (j:Int)∧covB f g j=true∧Below w.heap.size w wr) (fun ti _=>n-(intOf ti).toNat)
 case atStart=>exact⟨0,by omega,rfl,rfl,Below.refl _ _⟩
 case round =>
  obtain⟨j,hj,rfl,hA,hb⟩:=hrel
  have hj0:(0:Int)≤(j:Int):=by omega
  by_cases hx:j<n
  ·have hx1:(j:Int)<(n:Int):=by omega
   have KC:∀ q i W,q<w.heap.size→Below w.heap.size w W→W.cell? ⟨q,i,none⟩=w.cell? ⟨q,i,none⟩:=fun q i W hq hW=>World.cell?_of_block (a:=⟨q,i,none⟩) (hW.block q hq)
   obtain⟨d0,d1⟩:=h2 j hx
   rw [←KC g2 _ wr l2 hb] at d0 d1
   obtain⟨A,hA2⟩:∃ A,wr.alloc (.cells #[.int .i64 (g j).lo,.int .i64 (g j).hi] 213)=A:=⟨_,rfl⟩
   have HL:∀ W,Below A.heap.size A W→Below w.heap.size w W:=fun W hW=>by subst hA2;exact hb.trans ((box1.trans (hW.mono (by simp))).mono hb.size)
   have HF:∀ W,Below A.heap.size A W→(W.cell? ⟨wr.heap.size,0,none⟩=some (.int .i64 (g j).lo)∧W.cell? ⟨wr.heap.size,1,none⟩=some (.int .i64 (g j).hi))∧(W.cell? ⟨g1,o1+j*2,none⟩=some (.int .i64 (f j).lo)∧W.cell? ⟨g1,o1+j*2+1,none⟩=some (.int .i64 (f j).hi)):=fun W hW =>
    ⟨by subst hA2;exact⟨za1 hW 0,za1 hW 1⟩,(KC _ _ W l1 (HL W hW)).trans (h1 j hx).1,(KC _ _ W l1 (HL W hW)).trans (h1 j hx).2⟩
   by_cases hc:(g j).within (f j)=true
   ·go_wp2
    refine zad 6 (fun W=>Below A.heap.size A W) (Below.refl _ _).drew (by kernel_rfl) (by kernel_rfl) ?_
    simp only [List.take_succ_cons,List.take_zero,List.drop_succ_cons,List.drop_zero]
    repeat(refine zab rfl ?_ (fun W hW=>?_) ?_;rotate_left 1;· (obtain⟨⟨f0,f1⟩,f2,f3⟩:=HF W hW;go_simp;with_reducible rfl))
    refine zaI rfl 182 #[rv (g j),rv (f j)] (.bool ((g j).within (f j))) (fun W hW=>?_) (fun W hW=>(zjN _ _ W).mono (fun e w' hh=>⟨hh.1,hW.trans (hh.2.mono hW.size)⟩)) ?_
    ·go_simp
    refine wpQuiet_nil ?_
    intro W hW
    have hW2:=HL W hW
    go_wp2
    go_roundw
    case rel=>exact⟨j+1,by omega,by go_num,by unfold covB;rw [hA,hc];rfl,hW2⟩
    case measure=>simp [intOf];omega
   ·have hc2:(g j).within (f j)=false:=by simpa using hc
    clear hc
    go_wp2
    refine zad 6 (fun W=>Below A.heap.size A W) (Below.refl _ _).drew (by kernel_rfl) (by kernel_rfl) ?_
    simp only [List.take_succ_cons,List.take_zero,List.drop_succ_cons,List.drop_zero]
    repeat(refine zab rfl ?_ (fun W hW=>?_) ?_;rotate_left 1;· (obtain⟨⟨f0,f1⟩,f2,f3⟩:=HF W hW;go_simp;with_reducible rfl))
    refine zaI rfl 182 #[rv (g j),rv (f j)] (.bool ((g j).within (f j))) (fun W hW=>?_) (fun W hW=>(zjN _ _ W).mono (fun e w' hh=>⟨hh.1,hW.trans (hh.2.mono hW.size)⟩)) ?_
    ·go_simp
    refine wpQuiet_nil ?_
    intro W hW
    have hW2:=HL W hW
    go_wp2
    go_ret
    exact⟨by rw [zqO hx hc2];rfl,hW2⟩
  ·have hx2:decide ((j:Int)<(n:Int))=false:=by simpa using hx
   obtain rfl:j=n:=by omega
   go_wp2
   go_ret
   exact⟨by rw [hA];rfl,hb⟩
def zci(k o:Kn):Bool:=decide (k.next=o.next)&&(decide (k.behind=o.behind)&&(covB k.regs o.regs 8&&covB k.cells o.cells 16))
theorem znJ{w:World}{b c oo b1 c1:Nat}{a1 a2:Option Addr}{k o:Kn}(h:KnM w b (.slice a1 k.behind.length b1) k)(h2:KnR w c oo (.slice a2 o.behind.length c1) o)(B1:BhM w a1 b1 k.behind)(B2:BhM w a2 c1 o.behind):Calls Tryz.prog 168 #[.pointer (some ⟨b,0,none⟩),.pointer (some ⟨c,oo,none⟩)] w fun e w'=>e=.returned (.bool (zci k o))∧Below w.heap.size w w':=by
 have hc:c<w.heap.size:=World.block_lt_of_cell? w _ h2.cN
 have HK:∀ W,Below w.heap.size w W→KnM W b (.slice a1 k.behind.length b1) k∧KnR W c oo (.slice a2 o.behind.length c1) o:=fun W hW=>⟨h.below hW h.lt,h2.block (hW.block c hc)⟩
 have HF:∀ W,Below w.heap.size w W→W.cell? ⟨b,48,none⟩=some (.int .i64 k.next)∧W.cell? ⟨c,oo+48,none⟩=some (.int .i64 o.next)∧W.cell? ⟨b,49,none⟩=some (.slice a1 k.behind.length b1)∧W.cell? ⟨c,oo+49,none⟩=some (.slice a2 o.behind.length c1):=fun W hW=>by
  obtain⟨k1,k2⟩:=HK W hW
  exact⟨k1.cN,k2.cN,k1.cB,k2.cB⟩
 have HE:∀ W,Below w.heap.size w W→Calls Tryz.prog 176 #[.slice a1 k.behind.length b1,.slice a2 o.behind.length c1] W fun e w'=>e=.returned (.bool (decide (k.behind=o.behind)))∧Below w.heap.size w w':=fun W hW=>(zqN a1 a2 b1 c1 _ _ (B1.below hW) (B2.below hW)).mono fun e w' hh=>⟨hh.1,hW.trans (hh.2.mono hW.size)⟩
 have HR:∀ W,Below w.heap.size w W→Calls Tryz.prog 177 #[.slice (some ⟨b,0,none⟩) 8 8,.slice (some ⟨c,oo,none⟩) 8 8] W fun e w'=>e=.returned (.bool (covB k.regs o.regs 8))∧Below w.heap.size w w':=fun W hW=>by
  obtain⟨k1,k2⟩:=HK W hW
  exact(zmb b 0 8 c oo 8 8 k.regs o.regs (by omega) (fun r hr=>by rw [Nat.zero_add];exact k1.cR r hr) (fun r hr=>k2.cR r hr) k1.lt (Nat.lt_of_lt_of_le hc hW.size)).mono fun e w' hh=>⟨hh.1,hW.trans (hh.2.mono hW.size)⟩
 have HC:∀ W,Below w.heap.size w W→Calls Tryz.prog 177 #[.slice (some ⟨b,16,none⟩) 16 16,.slice (some ⟨c,oo+16,none⟩) 16 16] W fun e w'=>e=.returned (.bool (covB k.cells o.cells 16))∧Below w.heap.size w w':=fun W hW=>by
  obtain⟨k1,k2⟩:=HK W hW
  exact(zmb b 16 16 c (oo+16) 16 16 k.cells o.cells (by omega) (fun r hr=>k1.cC r hr) (fun r hr=>by have:=k2.cC r hr;rw [show oo+(16+r*2)=oo+16+r*2 by omega,show oo+(16+r*2+1)=oo+16+r*2+1 by omega] at this;exact this) k1.lt (Nat.lt_of_lt_of_le hc hW.size)).mono fun e w' hh=>⟨hh.1,hW.trans (hh.2.mono hW.size)⟩
 by_cases e1:k.next=o.next
 ·have t1:(k.next == o.next)=true:=by simpa using e1
  by_cases e2:k.behind=o.behind
  ·have t2:decide (k.behind=o.behind)=true:=by simpa using e2
   rw [t2] at HE
   cases e3:covB k.regs o.regs 8 with
   | false =>
    rw [e3] at HR
    have e0:zci k o=false:=by unfold zci;rw [e3];simp
    rw [e0]
    clear HC e2 t2 e3 e1 e0
    go_enter Tryz.func168,Tryz.ntmps168
    go_wp2
    refine zad 42 (fun W=>Below w.heap.size w W) (Below.refl _ _).drew (by kernel_rfl) (by kernel_rfl) ?_
    simp only [List.take_succ_cons,List.take_zero,List.drop_succ_cons,List.drop_zero]
    iterate 10 (refine zab rfl ?_ (fun W hW=>?_) ?_;rotate_left 1;· (obtain⟨f0,f1,f2,f3⟩:=HF W hW;go_simp;with_reducible rfl))
    simp only [Act.put,List.setIfInBounds_toArray,List.set_cons_zero,List.set_cons_succ]
    iterate 8 (go_big_quiet_want;rename_i K hK;refine⟨?_,fun W hW=>?_,hK _ ?_⟩;rotate_left 1;(· (obtain⟨f0,f1,f2,f3⟩:=HF W hW;unfold Oper.quietAt;go_simp;with_reducible rfl));clear hK K;simp only [Act.put,List.setIfInBounds_toArray,List.set_cons_zero,List.set_cons_succ])
    go_big_quiet_want;rename_i K hK;refine⟨.bool true,fun W hW=>?_,hK _ ?_⟩
    ·unfold Oper.quietAt;go_simp
    clear hK K
    simp only [Act.put,List.setIfInBounds_toArray,List.set_cons_zero,List.set_cons_succ]
    iterate 2 (refine zab rfl ?_ (fun W hW=>?_) ?_;rotate_left 1;· (obtain⟨f0,f1,f2,f3⟩:=HF W hW;go_simp;with_reducible rfl))
    simp only [Act.put,List.setIfInBounds_toArray,List.set_cons_zero,List.set_cons_succ]
    iterate 8 (go_big_quiet_want;rename_i K hK;refine⟨?_,fun W hW=>?_,hK _ ?_⟩;rotate_left 1;(· (obtain⟨f0,f1,f2,f3⟩:=HF W hW;unfold Oper.quietAt;go_simp;with_reducible rfl));clear hK K;simp only [Act.put,List.setIfInBounds_toArray,List.set_cons_zero,List.set_cons_succ])
    go_big_quiet_want;rename_i K hK;refine⟨.bool false,fun W hW=>?_,hK _ ?_⟩
    ·unfold Oper.quietAt;go_simp
    clear hK K
    simp only [Act.put,List.setIfInBounds_toArray,List.set_cons_zero,List.set_cons_succ]
    iterate 2 (refine zab rfl ?_ (fun W hW=>?_) ?_;rotate_left 1;· (obtain⟨f0,f1,f2,f3⟩:=HF W hW;go_simp;with_reducible rfl))
    simp only [Act.put,List.setIfInBounds_toArray,List.set_cons_zero,List.set_cons_succ]
    iterate 9 go_big_quiet_skip
    iterate 1 (refine zab rfl ?_ (fun W hW=>?_) ?_;rotate_left 1;· (obtain⟨f0,f1,f2,f3⟩:=HF W hW;go_simp;with_reducible rfl))
    simp only [Act.put,List.setIfInBounds_toArray,List.set_cons_zero,List.set_cons_succ]
    refine wpQuiet_nil ?_
    intro W hW
    go_wp2
    go_ret
    exact⟨rfl,hW⟩
   | true =>
    rw [e3] at HR
    have e0:zci k o=covB k.cells o.cells 16:=by unfold zci;rw [e3,t2,show decide (k.next=o.next)=true by simpa using e1];simp
    rw [e0]
    clear e2 t2 e3 e1 e0
    go_enter Tryz.func168,Tryz.ntmps168
    go_wp2
    refine zad 42 (fun W=>Below w.heap.size w W) (Below.refl _ _).drew (by kernel_rfl) (by kernel_rfl) ?_
    simp only [List.take_succ_cons,List.take_zero,List.drop_succ_cons,List.drop_zero]
    iterate 10 (refine zab rfl ?_ (fun W hW=>?_) ?_;rotate_left 1;· (obtain⟨f0,f1,f2,f3⟩:=HF W hW;go_simp;with_reducible rfl))
    simp only [Act.put,List.setIfInBounds_toArray,List.set_cons_zero,List.set_cons_succ]
    iterate 8 (go_big_quiet_want;rename_i K hK;refine⟨?_,fun W hW=>?_,hK _ ?_⟩;rotate_left 1;(· (obtain⟨f0,f1,f2,f3⟩:=HF W hW;unfold Oper.quietAt;go_simp;with_reducible rfl));clear hK K;simp only [Act.put,List.setIfInBounds_toArray,List.set_cons_zero,List.set_cons_succ])
    go_big_quiet_want;rename_i K hK;refine⟨.bool true,fun W hW=>?_,hK _ ?_⟩
    ·unfold Oper.quietAt;go_simp
    clear hK K
    simp only [Act.put,List.setIfInBounds_toArray,List.set_cons_zero,List.set_cons_succ]
    iterate 2 (refine zab rfl ?_ (fun W hW=>?_) ?_;rotate_left 1;· (obtain⟨f0,f1,f2,f3⟩:=HF W hW;go_simp;with_reducible rfl))
    simp only [Act.put,List.setIfInBounds_toArray,List.set_cons_zero,List.set_cons_succ]
    iterate 8 (go_big_quiet_want;rename_i K hK;refine⟨?_,fun W hW=>?_,hK _ ?_⟩;rotate_left 1;(· (obtain⟨f0,f1,f2,f3⟩:=HF W hW;unfold Oper.quietAt;go_simp;with_reducible rfl));clear hK K;simp only [Act.put,List.setIfInBounds_toArray,List.set_cons_zero,List.set_cons_succ])
    go_big_quiet_want;rename_i K hK;refine⟨.bool true,fun W hW=>?_,hK _ ?_⟩
    ·unfold Oper.quietAt;go_simp
    clear hK K
    simp only [Act.put,List.setIfInBounds_toArray,List.set_cons_zero,List.set_cons_succ]
    iterate 2 (refine zab rfl ?_ (fun W hW=>?_) ?_;rotate_left 1;· (obtain⟨f0,f1,f2,f3⟩:=HF W hW;go_simp;with_reducible rfl))
    simp only [Act.put,List.setIfInBounds_toArray,List.set_cons_zero,List.set_cons_succ]
    iterate 8 (go_big_quiet_want;rename_i K hK;refine⟨?_,fun W hW=>?_,hK _ ?_⟩;rotate_left 1;(· (obtain⟨f0,f1,f2,f3⟩:=HF W hW;unfold Oper.quietAt;go_simp;with_reducible rfl));clear hK K;simp only [Act.put,List.setIfInBounds_toArray,List.set_cons_zero,List.set_cons_succ])
    go_big_quiet_want;rename_i K hK;refine⟨.bool (covB k.cells o.cells 16),fun W hW=>?_,hK _ ?_⟩
    ·unfold Oper.quietAt;go_simp
    clear hK K
    simp only [Act.put,List.setIfInBounds_toArray,List.set_cons_zero,List.set_cons_succ]
    iterate 1 (refine zab rfl ?_ (fun W hW=>?_) ?_;rotate_left 1;· (obtain⟨f0,f1,f2,f3⟩:=HF W hW;go_simp;with_reducible rfl))
    simp only [Act.put,List.setIfInBounds_toArray,List.set_cons_zero,List.set_cons_succ]
    refine wpQuiet_nil ?_
    intro W hW
    go_wp2
    go_ret
    exact⟨rfl,hW⟩
  ·have t2:decide (k.behind=o.behind)=false:=by simpa using e2
   rw [t2] at HE
   have e0:zci k o=false:=by unfold zci;rw [t2];simp
   rw [e0]
   clear HR HC e2 t2 e1 e0
   go_enter Tryz.func168,Tryz.ntmps168
   go_wp2
   refine zad 42 (fun W=>Below w.heap.size w W) (Below.refl _ _).drew (by kernel_rfl) (by kernel_rfl) ?_
   simp only [List.take_succ_cons,List.take_zero,List.drop_succ_cons,List.drop_zero]
   iterate 10 (refine zab rfl ?_ (fun W hW=>?_) ?_;rotate_left 1;· (obtain⟨f0,f1,f2,f3⟩:=HF W hW;go_simp;with_reducible rfl))
   simp only [Act.put,List.setIfInBounds_toArray,List.set_cons_zero,List.set_cons_succ]
   iterate 8 (go_big_quiet_want;rename_i K hK;refine⟨?_,fun W hW=>?_,hK _ ?_⟩;rotate_left 1;(· (obtain⟨f0,f1,f2,f3⟩:=HF W hW;unfold Oper.quietAt;go_simp;with_reducible rfl));clear hK K;simp only [Act.put,List.setIfInBounds_toArray,List.set_cons_zero,List.set_cons_succ])
   go_big_quiet_want;rename_i K hK;refine⟨.bool false,fun W hW=>?_,hK _ ?_⟩
   ·unfold Oper.quietAt;go_simp
   clear hK K
   simp only [Act.put,List.setIfInBounds_toArray,List.set_cons_zero,List.set_cons_succ]
   iterate 2 (refine zab rfl ?_ (fun W hW=>?_) ?_;rotate_left 1;· (obtain⟨f0,f1,f2,f3⟩:=HF W hW;go_simp;with_reducible rfl))
   simp only [Act.put,List.setIfInBounds_toArray,List.set_cons_zero,List.set_cons_succ]
   iterate 9 go_big_quiet_skip
   iterate 2 (refine zab rfl ?_ (fun W hW=>?_) ?_;rotate_left 1;· (obtain⟨f0,f1,f2,f3⟩:=HF W hW;go_simp;with_reducible rfl))
   simp only [Act.put,List.setIfInBounds_toArray,List.set_cons_zero,List.set_cons_succ]
   iterate 9 go_big_quiet_skip
   iterate 1 (refine zab rfl ?_ (fun W hW=>?_) ?_;rotate_left 1;· (obtain⟨f0,f1,f2,f3⟩:=HF W hW;go_simp;with_reducible rfl))
   simp only [Act.put,List.setIfInBounds_toArray,List.set_cons_zero,List.set_cons_succ]
   refine wpQuiet_nil ?_
   intro W hW
   go_wp2
   go_ret
   exact⟨rfl,hW⟩
 ·have t1:(k.next == o.next)=false:=by simpa using e1
  have e0:zci k o=false:=by unfold zci;rw [show decide (k.next=o.next)=false by simpa using e1];simp
  rw [e0]
  clear HR HC HE e0 e1
  go_enter Tryz.func168,Tryz.ntmps168
  go_wp2
  refine zad 42 (fun W=>Below w.heap.size w W) (Below.refl _ _).drew (by kernel_rfl) (by kernel_rfl) ?_
  simp only [List.take_succ_cons,List.take_zero,List.drop_succ_cons,List.drop_zero]
  iterate 10 (refine zab rfl ?_ (fun W hW=>?_) ?_;rotate_left 1;· (obtain⟨f0,f1,f2,f3⟩:=HF W hW;go_simp;with_reducible rfl))
  simp only [Act.put,List.setIfInBounds_toArray,List.set_cons_zero,List.set_cons_succ]
  iterate 9 go_big_quiet_skip
  iterate 2 (refine zab rfl ?_ (fun W hW=>?_) ?_;rotate_left 1;· (obtain⟨f0,f1,f2,f3⟩:=HF W hW;go_simp;with_reducible rfl))
  simp only [Act.put,List.setIfInBounds_toArray,List.set_cons_zero,List.set_cons_succ]
  iterate 9 go_big_quiet_skip
  iterate 2 (refine zab rfl ?_ (fun W hW=>?_) ?_;rotate_left 1;· (obtain⟨f0,f1,f2,f3⟩:=HF W hW;go_simp;with_reducible rfl))
  simp only [Act.put,List.setIfInBounds_toArray,List.set_cons_zero,List.set_cons_succ]
  iterate 9 go_big_quiet_skip
  iterate 1 (refine zab rfl ?_ (fun W hW=>?_) ?_;rotate_left 1;· (obtain⟨f0,f1,f2,f3⟩:=HF W hW;go_simp;with_reducible rfl))
  simp only [Act.put,List.setIfInBounds_toArray,List.set_cons_zero,List.set_cons_succ]
  refine wpQuiet_nil ?_
  intro W hW
  go_wp2
  go_ret
  exact⟨rfl,hW⟩
end Go.Proofs.YtfpgjkbjbbgciaaGreatDoor
