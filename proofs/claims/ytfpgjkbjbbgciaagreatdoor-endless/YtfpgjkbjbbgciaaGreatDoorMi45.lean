import Derived.Test.YtfpgjkbjbbgciaaGreatDoorMi39
set_option maxRecDepth 100000
set_option maxHeartbeats 8000000
namespace Go.Proofs.YtfpgjkbjbbgciaaGreatDoor
section
open Go.RowKit Sp
def zaW(f g:Nat→Rg)(j:Nat):Nat→Rg:=fun i=>if i<j then(f i).or (g i) else f i
theorem zi4(f g:Nat→Rg):zaW f g 0=f:=by funext i;simp [zaW]
theorem zlU(f g:Nat→Rg)(j:Nat):zaW f g j j=f j:=by simp [zaW]
theorem zi5(f g:Nat→Rg)(j:Nat):updR (zaW f g j) j ((f j).or (g j))=zaW f g (j+1):=by
 funext i
 unfold updR zaW
 by_cases e:i=j
 ·subst e;rw [if_pos rfl,if_pos (by omega)]
 ·rw [if_neg e]
  by_cases e2:i<j
  ·rw [if_pos e2,if_pos (by omega)]
  ·rw [if_neg e2,if_neg (by omega)]
theorem KnM.like{w:World}{b:Nat}{bv:Value}{k k2:Kn}(h:KnM w b bv k)(h1:∀ r,r<8→k2.regs r=k.regs r)(h2:∀ c,c<16→k2.cells c=k.cells c)(h3:k2.next=k.next)(h4:k2.steps=k.steps):KnM w b bv k2 :=
 ⟨fun r hr=>by rw [h1 r hr];exact h.cR r hr,fun c hc=>by rw [h2 c hc];exact h.cC c hc,by rw [h3];exact h.cN,h.cB,by rw [h4];exact h.cS,h.fz⟩
theorem zz1{w:World}{b:Nat}{bv:Value}{k o:Kn}(h:KnM w b bv { k with regs:=zaW k.regs o.regs 8,cells:=zaW k.cells o.cells 16 }):KnM w b bv (zf8 k o) :=
 h.like (fun r hr=>by show _=zaW k.regs o.regs 8 r;unfold zaW;rw [if_pos hr];rfl) (fun r hr=>by show _=zaW k.cells o.cells 16 r;unfold zaW;rw [if_pos hr];rfl) rfl rfl
structure JnM(w wr:World)(b c:Nat)(bv cv:Value)(k o:Kn):Prop where
 kn:KnM wr b bv k
 ot:KnM wr c cv o
 low:w.grownBy wr (some b)
theorem JnM.below{w wr wy:World}{b c:Nat}{bv cv:Value}{k o:Kn}(L:JnM w wr b c bv cv k o)(hb:Below wr.heap.size wr wy):JnM w wy b c bv cv k o :=
 ⟨L.kn.below hb L.kn.lt,L.ot.below hb L.ot.lt,zae L.low ⟨hb.os,hb.tape,hb.output,hb.size,fun q hq _=>hb.block q hq⟩⟩
theorem KnM.other{w:World}{b c n:Nat}{v cv:Value}{o:Kn}(h:KnM w c cv o)(hne:¬c=b):KnM (w.setCell ⟨b,n,none⟩ v) c cv o:=h.block (Below.heap_setCell w _ _ c hne)
theorem JnM.putR{w wr:World}{b c:Nat}{bv cv:Value}{k o:Kn}(L:JnM w wr b c bv cv k o)(hne:¬c=b)(a:Nat)(ha:a<8)(u:Rg):JnM w ((wr.setCell ⟨b,a*2,none⟩ (.int .i64 u.lo)).setCell ⟨b,a*2+1,none⟩ (.int .i64 u.hi)) b c bv cv { k with regs:=updR k.regs a u } o :=
 ⟨L.kn.putR a ha u,(L.ot.other hne).other hne,zae L.low (zae (zah (Below.refl _ _)) (zah (Below.refl _ _)))⟩
theorem JnM.putC{w wr:World}{b c:Nat}{bv cv:Value}{k o:Kn}(L:JnM w wr b c bv cv k o)(hne:¬c=b)(a:Nat)(ha:a<16)(u:Rg):JnM w ((wr.setCell ⟨b,16+a*2,none⟩ (.int .i64 u.lo)).setCell ⟨b,16+a*2+1,none⟩ (.int .i64 u.hi)) b c bv cv { k with cells:=updR k.cells a u } o :=
 ⟨L.kn.putC a ha u,(L.ot.other hne).other hne,zae L.low (zae (zah (Below.refl _ _)) (zah (Below.refl _ _)))⟩
theorem zeU{w wx:World}{cs:Array Value}{t:TypeId}(hbx:Below (w.alloc (.cells cs t)).heap.size (w.alloc (.cells cs t)) wx)(j:Nat):wx.cell? ⟨w.heap.size,j,none⟩=cs[j]? :=
 (World.cell?_of_block (a:=⟨w.heap.size,j,none⟩) (hbx.block w.heap.size (by simp))).trans (World.cell?_alloc_new _ _ _ j)
theorem Tryz.size214:(Tryz.prog.info? 214).map (·.size)=some 16:=by kernel_rfl
theorem Tryz.size215:(Tryz.prog.info? 215).map (·.size)=some 32:=by kernel_rfl
theorem Tryz.row214:Tryz.prog.underlying 214=some (.array 8 213):=by kernel_rfl
theorem Tryz.row215:Tryz.prog.underlying 215=some (.array 16 213):=by kernel_rfl
theorem ztx{w:World}{b c:Nat}{bv cv:Value}{k o:Kn}(h:KnM w b bv k)(h2:KnM w c cv o)(hne:¬c=b):Calls Tryz.prog 142 #[.pointer (some ⟨b,0,none⟩),.pointer (some ⟨c,0,none⟩)] w (zlQ w b bv (zf8 k o)):=by
 have hr:=h2.rowR
 have L0:JnM w w b c bv cv { k with regs:=zaW k.regs o.regs 0 } o:=by rw [zi4];exact⟨h,h2,⟨rfl,rfl,rfl,Nat.le_refl _,fun _ _ _=>rfl⟩⟩
 have hi1:(Tryz.prog.info? 214).map (·.size)=some (rgs o.regs 8).length:=by rw [zd9];exact Tryz.size214
 have hx:=fun r hr W=>zpo Tryz.row214 o.regs r hr W
 generalize rgs o.regs 8=cs at hr hi1 hx
 go_enter Tryz.func142,Tryz.ntmps142
 go_wp2_with(first|(refine wpList_load_mid rfl 214 _ rfl c 0 rfl cs _ hr Tryz.row214 rfl hi1 ?_))
 go_loopw [12] (fun ti wr=>∃ j:Nat,j≤8∧ti=.int .i64 (j:Int)∧JnM w wr b c bv cv { k with regs:=zaW k.regs o.regs j } o) (fun ti _=>8-(intOf ti).toNat)
 case atStart=>exact⟨0,by omega,rfl,L0⟩
 case round =>
  obtain⟨j,hj,rfl,L⟩:=hrel
  by_cases hjn:j<8
  ·have hxj:=hx j hjn
   have hj0:(0:Int)≤(j:Int):=by omega
   have hj1:(j:Int)<8:=by omega
   have LK:=L.kn.cR j hjn
   have e0:zaW k.regs o.regs j j=k.regs j:=zlU _ _ _
   obtain⟨A,hA⟩:∃ A,wr.alloc (.cells #[.int .i64 (o.regs j).lo,.int .i64 (o.regs j).hi] 213)=A:=⟨_,rfl⟩
   have HL:∀ W,Below A.heap.size A W→Below wr.heap.size wr W:=fun W hW=>by subst hA;exact box1.trans (hW.mono (by simp))
   have HB:∀ W,Below A.heap.size A W→JnM w W b c bv cv { k with regs:=zaW k.regs o.regs j } o:=fun W hW=>L.below (HL W hW)
   have HF:∀ W,Below A.heap.size A W→(W.cell? ⟨wr.heap.size,0,none⟩=some (.int .i64 (o.regs j).lo)∧W.cell? ⟨wr.heap.size,1,none⟩=some (.int .i64 (o.regs j).hi))∧(W.cell? ⟨b,j*2,none⟩=some (.int .i64 (k.regs j).lo)∧W.cell? ⟨b,j*2+1,none⟩=some (.int .i64 (k.regs j).hi)):=fun W hW=>by
    have t:=(HB W hW).kn.cR j hjn
    rw [show({ k with regs:=zaW k.regs o.regs j }:Kn).regs j=k.regs j from e0] at t
    exact⟨by subst hA;exact⟨zeU hW 0,zeU hW 1⟩,t⟩
   go_wp2
   refine zad 12 (fun W=>Below A.heap.size A W) (Below.refl _ _).drew (by kernel_rfl) (by kernel_rfl) ?_
   simp only [List.take_succ_cons,List.take_zero,List.drop_succ_cons,List.drop_zero]
   repeat(refine zab rfl ?_ (fun W hW=>?_) ?_;rotate_left 1;· (obtain⟨⟨f0,f1⟩,f2,f3⟩:=HF W hW;go_simp;with_reducible rfl))
   refine zaI rfl 156 #[rv (k.regs j),rv (o.regs j)] (rv ((k.regs j).or (o.regs j))) (fun W hW=>?_) (fun W hW=>(zpl _ _ W).mono (fun e w' hh=>⟨hh.1,hW.trans (hh.2.mono hW.size)⟩)) ?_
   ·go_simp
   repeat(refine zab rfl ?_ (fun W hW=>?_) ?_;rotate_left 1;· (obtain⟨⟨f0,f1⟩,f2,f3⟩:=HF W hW;go_simp;with_reducible rfl))
   refine wpQuiet_nil ?_
   intro W hW
   have LW:=HB W hW
   obtain⟨_,c0,c1⟩:=HF W hW
   have z0:=LW.kn.fz (j*2)
   have z1:=LW.kn.fz (j*2+1)
   have LP:=LW.putR hne j hjn ((k.regs j).or (o.regs j))
   have LQ:JnM w ((W.setCell ⟨b,j*2,none⟩ (.int .i64 ((k.regs j).or (o.regs j)).lo)).setCell ⟨b,j*2+1,none⟩ (.int .i64 ((k.regs j).or (o.regs j)).hi)) b c bv cv { k with regs:=zaW k.regs o.regs (j+1) } o:=by
    have e:updR (zaW k.regs o.regs j) j ((k.regs j).or (o.regs j))=zaW k.regs o.regs (j+1):=zi5 _ _ _
    rw [←e]
    exact LP
   clear LP LW
   go_wp2
   exact⟨⟨j+1,by omega,by go_num,LQ⟩,by simp [intOf];omega⟩
  ·obtain rfl:j=8:=by omega
   have hr2:=L.ot.rowC
   have L2:JnM w wr b c bv cv { k with regs:=zaW k.regs o.regs 8,cells:=zaW k.cells o.cells 0 } o:=by rw [zi4];exact L
   have hi2:(Tryz.prog.info? 215).map (·.size)=some (rgs o.cells 16).length:=by rw [zd9];exact Tryz.size215
   have hx2:=fun r hr W=>zpo Tryz.row215 o.cells r hr W
   generalize rgs o.cells 16=ds at hr2 hi2 hx2
   clear L L0
   go_wp2_with(first|(refine wpList_load_mid rfl 215 _ rfl c 16 rfl ds _ hr2 Tryz.row215 rfl hi2 ?_))
   go_loopw [34] (fun ti wr=>∃ j:Nat,j≤16∧ti=.int .i64 (j:Int)∧JnM w wr b c bv cv { k with regs:=zaW k.regs o.regs 8,cells:=zaW k.cells o.cells j } o) (fun ti _=>16-(intOf ti).toNat)
   case atStart=>exact⟨0,by omega,rfl,L2⟩
   case round =>
    obtain⟨j,hj,rfl,L⟩:=hrel
    by_cases hjn:j<16
    ·have hxj:=hx2 j hjn
     have hj0:(0:Int)≤(j:Int):=by omega
     have hj1:(j:Int)<16:=by omega
     have LK:=L.kn.cC j hjn
     have e0:zaW k.cells o.cells j j=k.cells j:=zlU _ _ _
     obtain⟨A,hA⟩:∃ A,wr.alloc (.cells #[.int .i64 (o.cells j).lo,.int .i64 (o.cells j).hi] 213)=A:=⟨_,rfl⟩
     have HL:∀ W,Below A.heap.size A W→Below wr.heap.size wr W:=fun W hW=>by subst hA;exact box1.trans (hW.mono (by simp))
     have HB:∀ W,Below A.heap.size A W→JnM w W b c bv cv { k with regs:=zaW k.regs o.regs 8,cells:=zaW k.cells o.cells j } o:=fun W hW=>L.below (HL W hW)
     have HF:∀ W,Below A.heap.size A W→(W.cell? ⟨wr.heap.size,0,none⟩=some (.int .i64 (o.cells j).lo)∧W.cell? ⟨wr.heap.size,1,none⟩=some (.int .i64 (o.cells j).hi))∧(W.cell? ⟨b,16+j*2,none⟩=some (.int .i64 (k.cells j).lo)∧W.cell? ⟨b,16+j*2+1,none⟩=some (.int .i64 (k.cells j).hi)):=fun W hW=>by
      have t:=(HB W hW).kn.cC j hjn
      rw [show({ k with regs:=zaW k.regs o.regs 8,cells:=zaW k.cells o.cells j }:Kn).cells j=k.cells j from e0] at t
      exact⟨by subst hA;exact⟨zeU hW 0,zeU hW 1⟩,t⟩
     go_wp2
     refine zad 12 (fun W=>Below A.heap.size A W) (Below.refl _ _).drew (by kernel_rfl) (by kernel_rfl) ?_
     simp only [List.take_succ_cons,List.take_zero,List.drop_succ_cons,List.drop_zero]
     repeat(refine zab rfl ?_ (fun W hW=>?_) ?_;rotate_left 1;· (obtain⟨⟨f0,f1⟩,f2,f3⟩:=HF W hW;go_simp;with_reducible rfl))
     refine zaI rfl 156 #[rv (k.cells j),rv (o.cells j)] (rv ((k.cells j).or (o.cells j))) (fun W hW=>?_) (fun W hW=>(zpl _ _ W).mono (fun e w' hh=>⟨hh.1,hW.trans (hh.2.mono hW.size)⟩)) ?_
     ·go_simp
     repeat(refine zab rfl ?_ (fun W hW=>?_) ?_;rotate_left 1;· (obtain⟨⟨f0,f1⟩,f2,f3⟩:=HF W hW;go_simp;with_reducible rfl))
     refine wpQuiet_nil ?_
     intro W hW
     have LW:=HB W hW
     obtain⟨_,c0,c1⟩:=HF W hW
     have z0:=LW.kn.fz (16+j*2)
     have z1:=LW.kn.fz (16+j*2+1)
     have LP:=LW.putC hne j hjn ((k.cells j).or (o.cells j))
     have LQ:JnM w ((W.setCell ⟨b,16+j*2,none⟩ (.int .i64 ((k.cells j).or (o.cells j)).lo)).setCell ⟨b,16+j*2+1,none⟩ (.int .i64 ((k.cells j).or (o.cells j)).hi)) b c bv cv { k with regs:=zaW k.regs o.regs 8,cells:=zaW k.cells o.cells (j+1) } o:=by
      have e:updR (zaW k.cells o.cells j) j ((k.cells j).or (o.cells j))=zaW k.cells o.cells (j+1):=zi5 _ _ _
      rw [←e]
      exact LP
     clear LP LW
     go_wp2
     exact⟨⟨j+1,by omega,by go_num,LQ⟩,by simp [intOf];omega⟩
    ·obtain rfl:j=16:=by omega
     go_wp2
     refine bodyPost_end (results_none rfl _ _ _) rfl ⟨rfl,zz1 L.kn,L.low⟩
end
namespace Sp
def zhs:List UInt8:=[109,97,105,110]
def zuR:Ln:=⟨false,[[102,117,110,99],zhs]⟩
def zxg:Ln:=⟨true,[[115,116,111,112]]⟩
def oddL(t:Nat)(D:List UInt8):List Ln :=
 match t with
 | 0=>[⟨true,[[115,101,116],[114,48],[48]]⟩,⟨true,[[115,101,116],[114,49],[51]]⟩,⟨false,[[97,58]]⟩,⟨true,[[108,101,115,115],[114,48],[114,49],[98]]⟩,⟨true,[[106,117,109,112],[99]]⟩,⟨false,[[98,58]]⟩,⟨true,[[105,110,99],[114,48],[48]]⟩,⟨true,[[106,117,109,112],[97]]⟩,⟨false,[[99,58]]⟩]
 | 1=>[⟨false,[[97,58]]⟩,⟨true,[[106,117,109,112],[97]]⟩,⟨false,[[98,58]]⟩]
 | 2=>[⟨true,[[115,101,116],[114,48],D]⟩,⟨true,[[108,111,97,100],[114,49],[114,48]]⟩]
 | 3=>[⟨true,[[115,101,116],[114,48],D]⟩,⟨true,[[115,116,111,114,101],[114,48],[114,49]]⟩]
 | 4=>[⟨true,[[99,97,108,108],[109,97,105,110]]⟩]
 | 5=>[⟨true,[[115,101,116],[114,48],[49]]⟩,⟨true,[[115,101,116],[114,49],[48]]⟩,⟨false,[[97,58]]⟩,⟨true,[[108,101,115,115],[114,49],[114,48],[98]]⟩,⟨true,[[106,117,109,112],[99]]⟩,⟨false,[[98,58]]⟩,⟨true,[[114,101,97,100],[114,48]]⟩,⟨true,[[97,100,100],[114,48],[114,48],[114,49]]⟩,⟨true,[[115,101,116],[114,48],[49]]⟩,⟨true,[[106,117,109,112],[97]]⟩,⟨false,[[99,58]]⟩]
 | _=>[⟨true,[[115,101,116],[114,48],[48]]⟩,⟨true,[[115,101,116],[114,49],[57,50,50,51,51,55,50,48,51,54,56,53,52,55,55,53,56,48,55]]⟩,⟨false,[[97,58]]⟩,⟨true,[[108,101,115,115],[114,48],[114,49],[98]]⟩,⟨true,[[106,117,109,112],[99]]⟩,⟨false,[[98,58]]⟩,⟨true,[[105,110,99],[114,48],[49]]⟩,⟨true,[[106,117,109,112],[97]]⟩,⟨false,[[99,58]]⟩]
def oddS(t:Nat)(D:ByteArray):List Said :=
 match t with
 | 0=>[⟨105,[ba [115,101,116],ba [114,48],ba [48]],true⟩,⟨105,[ba [115,101,116],ba [114,49],ba [51]],true⟩,⟨108,[ba [97]],true⟩,⟨105,[ba [108,101,115,115],ba [114,48],ba [114,49],ba [98]],true⟩,⟨105,[ba [106,117,109,112],ba [99]],true⟩,⟨108,[ba [98]],true⟩,⟨105,[ba [105,110,99],ba [114,48],ba [48]],true⟩,⟨105,[ba [106,117,109,112],ba [97]],true⟩,⟨108,[ba [99]],true⟩]
 | 1=>[⟨108,[ba [97]],true⟩,⟨105,[ba [106,117,109,112],ba [97]],true⟩,⟨108,[ba [98]],true⟩]
 | 2=>[⟨105,[ba [115,101,116],ba [114,48],D],true⟩,⟨105,[ba [108,111,97,100],ba [114,49],ba [114,48]],true⟩]
 | 3=>[⟨105,[ba [115,101,116],ba [114,48],D],true⟩,⟨105,[ba [115,116,111,114,101],ba [114,48],ba [114,49]],true⟩]
 | 4=>[⟨105,[ba [99,97,108,108],ba [109,97,105,110]],true⟩]
 | 5=>[⟨105,[ba [115,101,116],ba [114,48],ba [49]],true⟩,⟨105,[ba [115,101,116],ba [114,49],ba [48]],true⟩,⟨108,[ba [97]],true⟩,⟨105,[ba [108,101,115,115],ba [114,49],ba [114,48],ba [98]],true⟩,⟨105,[ba [106,117,109,112],ba [99]],true⟩,⟨108,[ba [98]],true⟩,⟨105,[ba [114,101,97,100],ba [114,48]],true⟩,⟨105,[ba [97,100,100],ba [114,48],ba [114,48],ba [114,49]],true⟩,⟨105,[ba [115,101,116],ba [114,48],ba [49]],true⟩,⟨105,[ba [106,117,109,112],ba [97]],true⟩,⟨108,[ba [99]],true⟩]
 | _=>[⟨105,[ba [115,101,116],ba [114,48],ba [48]],true⟩,⟨105,[ba [115,101,116],ba [114,49],ba [57,50,50,51,51,55,50,48,51,54,56,53,52,55,55,53,56,48,55]],true⟩,⟨108,[ba [97]],true⟩,⟨105,[ba [108,101,115,115],ba [114,48],ba [114,49],ba [98]],true⟩,⟨105,[ba [106,117,109,112],ba [99]],true⟩,⟨108,[ba [98]],true⟩,⟨105,[ba [105,110,99],ba [114,48],ba [49]],true⟩,⟨105,[ba [106,117,109,112],ba [97]],true⟩,⟨108,[ba [99]],true⟩]
def zuS:Said:=⟨102,[ba [102,117,110,99],ba zhs],true⟩
def zzO:Said:=⟨105,[ba [115,116,111,112]],true⟩
theorem zuT:zuR.Ok:=fun x hx=>by
 simp only [zuR,List.mem_cons,List.not_mem_nil,or_false] at hx
 rcases hx with rfl|rfl <;> exact zdA (by decide)
theorem zo1:zuR.said=zuS:=by kernel_rfl
theorem zo2:zxg.said=zzO:=by kernel_rfl
def wdB(x:List UInt8):Bool:=!x.isEmpty&&x.all fun c=>decide (33≤c.toNat∧c.toNat<127∧¬c.toNat=59)
theorem zkg{ls:List Ln}(h:(ls.all fun l=>l.ws.all wdB)=true):∀ l∈ls,l.Ok:=fun l hl x hx=>zdA (List.all_eq_true.1 (List.all_eq_true.1 h l hl) x hx)
theorem zuU:∀ l∈[zxg],l.Ok:=zkg (by decide)
theorem zzP(t:Nat)(n:Int):∀ l∈oddL t (digL n),l.Ok:=by
 have hd:=zur n
 unfold oddL
 split
 ·exact zkg (by decide)
 ·exact zkg (by decide)
 ·intro l hl x hx
  simp only [List.mem_cons,List.not_mem_nil,or_false] at hl
  rcases hl with rfl|rfl
  ·simp only [List.mem_cons,List.not_mem_nil,or_false] at hx
   rcases hx with rfl|rfl|rfl <;> first|exact hd|exact zdA (by decide)
  ·simp only [List.mem_cons,List.not_mem_nil,or_false] at hx
   rcases hx with rfl|rfl|rfl <;> exact zdA (by decide)
 ·intro l hl x hx
  simp only [List.mem_cons,List.not_mem_nil,or_false] at hl
  rcases hl with rfl|rfl
  ·simp only [List.mem_cons,List.not_mem_nil,or_false] at hx
   rcases hx with rfl|rfl|rfl <;> first|exact hd|exact zdA (by decide)
  ·simp only [List.mem_cons,List.not_mem_nil,or_false] at hx
   rcases hx with rfl|rfl|rfl <;> exact zdA (by decide)
 ·exact zkg (by decide)
 ·exact zkg (by decide)
 ·exact zkg (by decide)
theorem zxh(t:Nat)(n:Int)(h0:-9223372036854775808≤n)(h1:n≤9223372036854775807):(oddL t (digL n)).map Ln.said=oddS t (ba (digL n)):=by
 have hs:(⟨true,[[115,101,116],[114,48],digL n]⟩:Ln).said=⟨105,[ba [115,101,116],ba [114,48],ba (digL n)],true⟩:=zwW (i:=0) (by decide) h0 h1
 match t with
 | 0=>show List.map Ln.said (oddL 0 (digL n))=oddS 0 (ba (digL n));kernel_rfl
 | 1=>show List.map Ln.said (oddL 1 (digL n))=oddS 1 (ba (digL n));kernel_rfl
 | 2 =>
  show List.map Ln.said [_,_]=_
  rw [List.map_cons,hs]
  show _=[_,_]
  refine congrArg _ ?_
  kernel_rfl
 | 3 =>
  show List.map Ln.said [_,_]=_
  rw [List.map_cons,hs]
  show _=[_,_]
  refine congrArg _ ?_
  kernel_rfl
 | 4=>show List.map Ln.said (oddL 4 (digL n))=oddS 4 (ba (digL n));kernel_rfl
 | 5=>show List.map Ln.said (oddL 5 (digL n))=oddS 5 (ba (digL n));kernel_rfl
 | t+6=>show List.map Ln.said (oddL (t+6) (digL n))=oddS (t+6) (ba (digL n));kernel_rfl
def zo3(t:Nat)(D:ByteArray):List Said:=oddS t D++[zzO]
def zAd(t:Nat)(D:ByteArray):Fs:=⟨zhs,zo3 t D⟩
def zyQ(b:List Said):Bool :=
 (b.all fun q=>decide (¬q.kind=102)&&q.ok&&(!decide (q.kind=105)||((!zaE (q.word 0)||(labI q.last b).isSome)&&(!zbt (q.word 0)||eqW q.last (ba zhs))))) &&
 ((List.range b.length).all fun j=>(b[j]?.map fun q=>!decide (q.kind=108)||decide (labI (q.word 0) b=some j)) == some true) &&
 b.foldl (fun e q=>if q.kind=108 then false else if q.kind=105 then ends (q.word 0) else e) false
theorem zuV{b:List Said}{names:List (List UInt8)}(hm:zhs∈names)(h:zyQ b=true):BodyOk names b:=by
 unfold zyQ at h
 rw [Bool.and_eq_true,Bool.and_eq_true] at h
 obtain⟨⟨h1,h2⟩,h3⟩:=h
 have g:=fun q hq=>List.all_eq_true.1 h1 q hq
 simp only [Bool.and_eq_true,Bool.or_eq_true,Bool.not_eq_true',decide_eq_false_iff_not,decide_eq_true_eq] at g
 refine⟨fun q hq=>(g q hq).1.1,fun q hq=>(g q hq).1.2,fun j hj h8=>?_,fun q hq h5 h6 e=>?_,fun q hq h5 h6=>⟨zhs,hm,?_⟩,h3⟩
 ·have k:=List.all_eq_true.1 h2 j (List.mem_range.2 hj)
  rw [List.getElem?_eq_getElem hj] at k
  simp [h8] at k
  exact k
 ·rcases(g q hq).2 with k|k
  ·exact k h5
  ·rcases k.1 with k|k
   ·rw [h6] at k;cases k
   ·rw [e] at k;cases k
 ·rcases(g q hq).2 with k|k
  ·exact absurd h5 k
  ·rcases k.2 with k|k
   ·rw [h6] at k;cases k
   ·have:=zm1 q.last.data.toList zhs
    rw [zof] at this
    rw [this] at k
    rw [←of_decide_eq_true k,zof]
theorem zyR(t:Nat)(D:ByteArray):zyQ (zo3 t D)=true:=by
 unfold zo3 oddS
 split <;> kernel_rfl
def endL(t:Nat)(n:Int)(G:List (List Ln)):List Ln:=zuR :: (oddL t (digL n)++[zxg])++lnsT G
def endS(t:Nat)(D:ByteArray)(R:List Said):List Said:=zuS :: zo3 t D++R
theorem zxi(t:Nat)(n:Int)(h0:-9223372036854775808≤n)(h1:n≤9223372036854775807)(G:List (List Ln))(hG:¬G=[])(hl:G.length≤1000000):(endL t n G++[zff]).map Ln.said=endS t (ba (digL n)) (zaO (fsT G)):=by
 unfold endL endS zo3
 rw [zyI G hG hl,←zxh t n h0 h1,←zo2,←zo1]
 simp only [List.cons_append,List.append_assoc,List.map_cons,List.map_append,List.map_nil,List.nil_append]
theorem zxj(t:Nat)(D:ByteArray){G:List (List Ln)}(h:Wrote G)(hl:G.length≤1000000):Prog (endS t D (zaO (fsT G))):=by
 have e:endS t D (zaO (fsT G))=zaO (zAd t D :: fsT G):=by rw [zce];rfl
 rw [e]
 refine zyE _ (by simp) ?_ (fun f hf=>?_)
 ·rw [List.map_cons,zu7,List.nodup_cons]
  refine⟨fun hm=>?_,zor _ hl⟩
  obtain⟨k,_,hk⟩:=List.mem_map.1 hm
  exact absurd (List.cons.inj hk).1 (by decide)
 ·rcases List.mem_cons.1 hf with e|e
  ·rw [e];exact zuV (by rw [List.map_cons];exact List.mem_cons_self) (zyR t D)
  ·refine h.body _ (fun k hk=>?_) hl f e
   rw [List.map_cons,zu7]
   exact List.mem_cons_of_mem _ (List.mem_map_of_mem (List.mem_reverse.2 (List.mem_range.2 hk)))
def endT(t:Nat)(n:Int)(G:List (List Ln)):ByteArray:=ba (zcB ((endL t n G).map Ln.bytes))
theorem zmK(t:Nat)(n:Int)(h0:-9223372036854775808≤n)(h1:n≤9223372036854775807){G:List (List Ln)}(h:Wrote G)(hG:¬G=[])(hl:G.length≤1000000):(lines (endT t n G)).map say=endS t (ba (digL n)) (zaO (fsT G)):=by
 have hok:∀ l∈endL t n G++[zff],l.Ok:=fun l hl2=>by
  unfold endL at hl2
  simp only [List.cons_append,List.append_assoc,List.mem_cons,List.mem_append,List.not_mem_nil,or_false] at hl2
  rcases hl2 with e|e|e|e|e|e
  ·rw [e];exact zuT
  ·exact zzP t n l e
  ·exact zuU l (by rw [e];exact List.mem_singleton.2 rfl)
  ·cases e
  ·exact h.ok hl l (List.mem_append_left _ e)
  ·exact h.ok hl l (List.mem_append_right _ (List.mem_singleton.2 e))
 have:=zwX (ls:=(endL t n G).map Ln.bytes) (fun l hl c hc=>by
  obtain⟨x,hx,rfl⟩:=List.mem_map.1 hl
  exact x.no10' (hok x (List.mem_append_left _ hx)) c hc) [] (fun c hc=>by cases hc)
 rw [List.append_nil] at this
 rw [←zxi t n h0 h1 G hG hl]
 unfold endT
 rw [zwI,this,List.map_map,List.map_append,List.map_append,List.map_map]
 have e1:(endL t n G).map ((Sp.say∘ba)∘Ln.bytes)=(endL t n G).map Ln.said:=List.map_congr_left fun l hl=>l.say0 (hok l (List.mem_append_left _ hl))
 rw [e1]
 have e2:Sp.say (ba [])=zff.said:=zff.say0 (hok _ (List.mem_append_right _ (List.mem_singleton.2 rfl)))
 simp only [List.map_cons,List.map_nil,Function.comp_apply,e2]
theorem zxk(t:Nat)(n:Int)(h0:-9223372036854775808≤n)(h1:n≤9223372036854775807){G:List (List Ln)}(h:Wrote G)(hG:¬G=[])(hl:G.length≤1000000):zcg (endT t n G)=if 4000<(endT t n G).size∨300<(lines (endT t n G)).length then(6,0) else(0,0) :=
 zut _ (by rw [zmK t n h0 h1 h hG hl];exact zxj t _ h hl)
end Sp
section
open Sp
inductive Pj:(Kn→Int)→Prop
 | rlo (r:Nat):Pj fun k=>(k.regs r).lo
 | rhi (r:Nat):Pj fun k=>-(k.regs r).hi
 | clo (c:Nat):Pj fun k=>(k.cells c).lo
 | chi (c:Nat):Pj fun k=>-(k.cells c).hi
theorem Pj.join{f:Kn→Int}(h:Pj f)(k o:Kn):f (zf8 k o)=min (f k) (f o):=by
 cases h with
 | rlo r=>rfl
 | rhi r=>show -(max (k.regs r).hi (o.regs r).hi)=min (-(k.regs r).hi) (-(o.regs r).hi);omega
 | clo c=>rfl
 | chi c=>show -(max (k.cells c).hi (o.cells c).hi)=min (-(k.cells c).hi) (-(o.cells c).hi);omega
theorem Rg.ext'{a b:Rg}(h1:a.lo=b.lo)(h2:a.hi=b.hi):a=b:=by cases a;cases b;simp_all
theorem zz7{k o:Kn}(h:∀ f,Pj f→f k=f o)(m:Meet k o):k=o:=by
 have e1:k.regs=o.regs:=funext fun r=>Rg.ext' (h _ (.rlo r)) (by have:=h _ (.rhi r);omega)
 have e2:k.cells=o.cells:=funext fun r=>Rg.ext' (h _ (.clo r)) (by have:=h _ (.chi r);omega)
 obtain⟨m1,m2,m3⟩:=m
 cases k;cases o
 simp only at e1 e2 m1 m2 m3
 subst e1;subst e2;subst m1;subst m2;subst m3;rfl
theorem Meet.key{y k:Kn}(h:Meet y k):keyK y=keyK k:=by unfold keyK;rw [h.1,h.2.1,h.2.2]
theorem zk6{y k:Kn}(hy:KeyOk y)(hk:KeyOk k)(h:keyK y=keyK k):Meet y k:=by
 obtain⟨c1,c2,c3⟩:=znG hy hk
 by_cases h0:cmpK y k=0
 ·exact c2 h0
 ·by_cases h1:cmpK y k<0
  ·have:=c1 h1;omega
  ·have:=c3 (by omega);omega
structure TakeC(W:List Kn)(k:Kn)(ys zs:List Kn):Prop where
 perm:(zs++ys).Perm W
 ne:∃ z,z∈zs
 meet:∀ z∈zs,Meet z k
 pj:∀ f,Pj f→(∀ z∈zs,f k≤f z)∧∃ z∈zs,f k=f z
 least:∀ y∈ys,keyK k≤keyK y
theorem TakeR.cls{W ys:List Kn}{k:Kn}(h:TakeR W k ys):∃ zs,TakeC W k ys zs:=by
 induction h with
 | one hp hl =>
  rename_i k ys
  exact⟨[k],hp,⟨k,zb8 _⟩,fun z hz=>by rw [List.mem_singleton.1 hz];exact⟨rfl,rfl,rfl⟩,fun f _=>⟨fun z hz=>by rw [List.mem_singleton.1 hz];exact Int.le_refl _,k,zb8 _,rfl⟩,hl⟩
 | more h1 hp hm ih =>
  rename_i k y ys zs
  obtain⟨cs,c⟩:=ih
  have hkey:keyK (zf8 k y)=keyK k:=rfl
  refine⟨y :: cs,?_,⟨y,List.mem_cons_self⟩,fun z hz=>?_,fun f hf=>?_,fun x hx=>?_⟩
  ·refine List.Perm.trans ?_ c.perm
   show(y :: (cs++zs)).Perm _
   exact(List.perm_middle (l₁:=cs) (a:=y) (l₂:=zs)).symm.trans (List.Perm.append_left cs hp)
  ·rcases List.mem_cons.1 hz with e|e
   ·rw [e];exact hm
   ·exact c.meet z e
  ·obtain⟨p1,z0,hz0,p2⟩:=c.pj f hf
   rw [hf.join]
   refine⟨fun z hz=>?_,?_⟩
   ·rcases List.mem_cons.1 hz with e|e
    ·rw [e];omega
    ·have:=p1 z e;omega
   ·by_cases hle:f k≤f y
    ·exact⟨z0,List.mem_cons_of_mem _ hz0,by omega⟩
    ·exact⟨y,List.mem_cons_self,by omega⟩
  ·rw [hkey];exact c.least x (hp.mem_iff.1 (List.mem_cons_of_mem _ hx))
theorem zeW{α:Type}{p:α→Bool}{l:List α}(h:∀ x∈l,p x=true):l.filter p=l:=List.filter_eq_self.2 h
theorem zeh{α:Type}{p:α→Bool}{l:List α}(h:∀ x∈l,p x=false):l.filter p=[]:=List.filter_eq_nil_iff.2 fun x hx=>by rw [h x hx];simp
theorem TakeD.unique{W W' ys ys':List Kn}{k k':Kn}(hW:∀ x∈W,KeyOk x)(hP:W.Perm W')(h:TakeD W k ys)(h':TakeD W' k' ys'):k=k'∧ys.Perm ys':=by
 obtain⟨zs,c⟩:=h.1.cls
 obtain⟨zs',c'⟩:=h'.1.cls
 have kk:∀ x,x∈zs++ys→KeyOk x:=fun x hx=>hW x (c.perm.mem_iff.1 hx)
 have kk':∀ x,x∈zs'++ys'→KeyOk x:=fun x hx=>hW x (hP.mem_iff.2 (c'.perm.mem_iff.1 hx))
 obtain⟨z,hz⟩:=c.ne
 obtain⟨z',hz'⟩:=c'.ne
 have mz:=c.meet z hz
 have mz':=c'.meet z' hz'
 have hk:KeyOk k:=by have q:=kk z (List.mem_append_left _ hz);exact⟨by rw [←mz.1];exact q.next,by rw [←mz.2.1];exact q.behind⟩
 have hk':KeyOk k':=by have q:=kk' z' (List.mem_append_left _ hz');exact⟨by rw [←mz'.1];exact q.next,by rw [←mz'.2.1];exact q.behind⟩
 have lt:∀ y∈ys,keyK k<keyK y:=fun y hy=>by
  have h1:=c.least y hy
  by_cases e:keyK y=keyK k
  ·exact absurd (zk6 (kk y (List.mem_append_right _ hy)) hk e) (h.2 y hy)
  ·omega
 have lt':∀ y∈ys',keyK k'<keyK y:=fun y hy=>by
  have h1:=c'.least y hy
  by_cases e:keyK y=keyK k'
  ·exact absurd (zk6 (kk' y (List.mem_append_right _ hy)) hk' e) (h'.2 y hy)
  ·omega
 have ek:keyK k=keyK k':=by
  have a1:keyK k≤keyK k':=by
   have hm:z'∈zs++ys:=c.perm.mem_iff.2 (hP.mem_iff.2 (c'.perm.mem_iff.1 (List.mem_append_left _ hz')))
   rw [←mz'.key]
   rcases List.mem_append.1 hm with e|e
   ·rw [(c.meet z' e).key];exact Int.le_refl _
   ·have:=lt z' e;omega
  have a2:keyK k'≤keyK k:=by
   have hm:z∈zs'++ys':=c'.perm.mem_iff.2 (hP.mem_iff.1 (c.perm.mem_iff.1 (List.mem_append_left _ hz)))
   rw [←mz.key]
   rcases List.mem_append.1 hm with e|e
   ·rw [(c'.meet z e).key];exact Int.le_refl _
   ·have:=lt' z e;omega
  omega
 have f1:((zs++ys).filter fun x=>decide (keyK x=keyK k))=zs:=by
  rw [List.filter_append,zeW (fun x hx=>by simpa using (c.meet x hx).key),zeh (fun x hx=>by have:=lt x hx;simp;omega),List.append_nil]
 have f2:((zs++ys).filter fun x=>!decide (keyK x=keyK k))=ys:=by
  rw [List.filter_append,zeh (fun x hx=>by simp [(c.meet x hx).key]),zeW (fun x hx=>by have:=lt x hx;simp;omega),List.nil_append]
 have f1':((zs'++ys').filter fun x=>decide (keyK x=keyK k))=zs':=by
  rw [ek,List.filter_append,zeW (fun x hx=>by simpa using (c'.meet x hx).key),zeh (fun x hx=>by have:=lt' x hx;simp;omega),List.append_nil]
 have f2':((zs'++ys').filter fun x=>!decide (keyK x=keyK k))=ys':=by
  rw [ek,List.filter_append,zeh (fun x hx=>by simp [(c'.meet x hx).key]),zeW (fun x hx=>by have:=lt' x hx;simp;omega),List.nil_append]
 have hp:(zs++ys).Perm (zs'++ys'):=c.perm.trans (hP.trans c'.perm.symm)
 have pz:zs.Perm zs':=by have:=hp.filter fun x=>decide (keyK x=keyK k);rwa [f1,f1'] at this
 have py:ys.Perm ys':=by have:=hp.filter fun x=>!decide (keyK x=keyK k);rwa [f2,f2'] at this
 refine⟨zz7 (fun f hf=>?_) (zk6 hk hk' ek),py⟩
 obtain⟨p1,a,ha,p2⟩:=c.pj f hf
 obtain⟨q1,b,hb,q2⟩:=c'.pj f hf
 have:=p1 b (pz.mem_iff.2 hb)
 have:=q1 a (pz.mem_iff.1 ha)
 omega
structure Gq(G G':Gs):Prop where
 W:G.W.Perm G'.W
 looks:G.looks=G'.looks
 R:G.R=G'.R
 bs:G.bs=G'.bs
 bf:G.bf=G'.bf
theorem zt9{C:List (Ins × Int)}(hC:C.length≤300){G G' H H':Gs}(hG:GsOk C G)(q:Gq G G')(r:Rd C G H)(r':Rd C G' H'):Gq H H':=by
 obtain⟨k,ys,ks,p,hp,l1,l2,ht,hs,he,hk,hl,hW,hL,hbs,hbf⟩:=r
 obtain⟨k',ys',ks',p',hp',l1',l2',ht',hs',he',hk',hl',hW',hL',hbs',hbf'⟩:=r'
 obtain⟨rfl,py⟩:=TakeD.unique (fun x hx=>(hG.kn x hx).key hC) q.W ht ht'
 have ep:p=p':=by omega
 subst ep
 rw [hl] at hl'
 cases hl'
 refine⟨hW.trans ((List.Perm.append_right ks py).trans hW'.symm),by rw [hL,hL',q.looks],?_,by rw [hbs,hbs'],by rw [hbf,hbf',q.bf]⟩
 rw [q.R,he'] at he
 simpa using he.symm
theorem ztA{C:List (Ins × Int)}(hC:C.length≤300){G G' H:Gs}(hG:GsOk C G)(q:Gq G G')(r:Rd C G H)(r':Rf C G'):False:=by
 obtain⟨k,ys,ks,p,hp,l1,l2,ht,hs,he,hk,hl,hW,hL,hbs,hbf⟩:=r
 obtain⟨_,h|h|⟨k',ys',ht',h⟩⟩:=r'
 ·have:=q.looks;omega
 ·have:=q.W.length_eq;omega
 ·obtain⟨rfl,py⟩:=TakeD.unique (fun x hx=>(hG.kn x hx).key hC) q.W ht ht'
  rcases h with h|h|⟨p',hp',hk',hl'⟩
  ·exact hs h
  ·rw [←q.R,he] at h;cases h
  ·have ep:p=p':=by omega
   subst ep
   rw [hl] at hl';cases hl'
theorem zwt{W ys:List Kn}{k:Kn}(h:TakeD W k ys):W≠[]:=by
 obtain⟨zs,c⟩:=h.1.cls
 obtain⟨z,hz⟩:=c.ne
 intro e
 have:=c.perm.mem_iff.1 (List.mem_append_left ys hz)
 rw [e] at this;cases this
theorem zys{C:List (Ins × Int)}{G H:Gs}(r:Rd C G H):G.W≠[]:=by
 obtain⟨k,ys,ks,p,hp,l1,l2,ht,_⟩:=r
 exact zwt ht
inductive Reach(C:List (Ins × Int)):Gs→Prop
 | zero:Reach C gs0
 | step {G G':Gs}:Reach C G→Rd C G G'→Reach C G'
theorem Reach.t{C:List (Ins × Int)}(S:CodeSure C){G:Gs}(h:Reach C G):GsT C G:=by
 induction h with
 | zero=>exact zAb S
 | step _ r ih=>exact rd_t S ih r
theorem zgf{C:List (Ins × Int)}{G H:Gs}(r:Rd C G H):H.looks=G.looks+1:=by
 obtain⟨k,ys,ks,p,hp,l1,l2,ht,hs,he,hk,hl,hW,hL,hbs,hbf⟩:=r
 exact hL
theorem Reach.unique{C:List (Ins × Int)}(S:CodeSure C){G G':Gs}(h:Reach C G)(h':Reach C G')(e:G.looks=G'.looks):Gq G G':=by
 induction h generalizing G' with
 | zero =>
  cases h' with
  | zero=>exact⟨List.Perm.refl _,rfl,rfl,rfl,rfl⟩
  | step _ r=>have:=zgf r;have e2:(gs0).looks=0:=rfl;omega
 | step h r ih =>
  cases h' with
  | zero=>have:=zgf r;have e2:(gs0).looks=0:=rfl;omega
  | step h2 r2 =>
   have e1:=zgf r
   have e2:=zgf r2
   exact zt9 S.ok.few (h.t S).ok (ih h2 (by omega)) r r2
theorem Reach.way{C:List (Ins × Int)}{G:Gs}(h:Reach C G)(n:Nat)(hn:n<G.looks):∃ G1 G2,Reach C G1∧Rd C G1 G2∧G1.looks=n:=by
 induction h with
 | zero=>exact absurd hn (by show ¬n<0;omega)
 | step h r ih =>
  rename_i G G'
  have e:=zgf r
  by_cases hl:n=G.looks
  ·exact⟨G,G',h,r,hl.symm⟩
  ·exact ih (by omega)
def Verd(C:List (Ins × Int)):Option (Int × Int)→Prop
 | none=>∃ G,Reach C G∧Rf C G
 | some b=>∃ G,Reach C G∧G.W=[]∧G.bs=b.1∧G.bf=b.2
theorem Verd.unique{C:List (Ins × Int)}(S:CodeSure C){a b:Option (Int × Int)}(ha:Verd C a)(hb:Verd C b):a=b:=by
 have key:∀{G G':Gs},Reach C G→Reach C G'→G.W=[]→Rf C G'→False:=fun{G G'} h h' hW hR=>by
  rcases Nat.lt_trichotomy G.looks G'.looks with hl|hl|hl
  ·obtain⟨G1,G2,r1,r2,e⟩:=h'.way _ hl
   have q:=h.unique S r1 e.symm
   exact zys r2 (List.perm_nil.1 (by rw [←hW];exact q.W.symm))
  ·have q:=h.unique S h' hl
   exact hR.1 (List.perm_nil.1 (by rw [←hW];exact q.W.symm))
  ·obtain⟨G1,G2,r1,r2,e⟩:=h.way _ hl
   exact ztA S.ok.few (r1.t S).ok (r1.unique S h' e) r2 hR
 cases a with
 | none =>
  cases b with
  | none=>rfl
  | some b =>
   obtain⟨G,h,hR⟩:=ha
   obtain⟨G',h',hW,_⟩:=hb
   exact(key h' h hW hR).elim
 | some a =>
  obtain⟨G,h,hW,h1,h2⟩:=ha
  cases b with
  | none =>
   obtain⟨G',h',hR⟩:=hb
   exact(key h h' hW hR).elim
  | some b =>
   obtain⟨G',h',hW',h1',h2'⟩:=hb
   have eL:G.looks=G'.looks:=by
    rcases Nat.lt_trichotomy G.looks G'.looks with hl|hl|hl
    ·obtain⟨G1,G2,r1,r2,e⟩:=h'.way _ hl
     have q:=h.unique S r1 e.symm
     exact(zys r2 (List.perm_nil.1 (by rw [←hW];exact q.W.symm))).elim
    ·exact hl
    ·obtain⟨G1,G2,r1,r2,e⟩:=h.way _ hl
     have q:=h'.unique S r1 e.symm
     exact(zys r2 (List.perm_nil.1 (by rw [←hW'];exact q.W.symm))).elim
   have q:=h.unique S h' eL
   obtain⟨a1,a2⟩:=a
   obtain⟨b1,b2⟩:=b
   simp only at h1 h2 h1' h2'
   rw [←h1,←h2,←h1',←h2',q.bs,q.bf]
theorem Verd.ends{C:List (Ins × Int)}(S:CodeSure C){b:Int × Int}(h:Verd C (some b))(inp:List Int)(hin:∀ x∈inp,i64 x)(N:Nat)(hN:b.1≤(N:Int)):
  ((runS (zc0 C) N (zbl inp)).fin=1∨(runS (zc0 C) N (zbl inp)).fin=2)∧(runS (zc0 C) N (zbl inp)).steps≤b.1∧(runS (zc0 C) N (zbl inp)).peak≤b.2:=by
 obtain⟨G,hr,hW,h1,h2⟩:=h
 rw [←h1,←h2]
 exact(hr.t S).ends hW inp hin N (by rw [h1];exact hN)
theorem Verd.bound{C:List (Ins × Int)}(S:CodeSure C){b:Int × Int}(h:Verd C (some b)):1≤b.1∧b.1≤100000∧1≤b.2∧b.2≤16:=by
 obtain⟨G,hr,hW,h1,h2⟩:=h
 have ok:=(hr.t S).ok
 rw [←h1,←h2]
 cases hr with
 | zero=>cases hW
 | step hr r =>
  have ok0:=(hr.t S).ok
  obtain⟨k,ys,ks,p,hp,l1,l2,ht,hs,he,hk,hl,hW,hL,hbs,hbf⟩:=r
  have K:=(ht.1.kn S.ok.few ok0.kn).1
  have:=K.s0
  have:=ok.bs1
  have:=ok.bf1
  omega
end
end Go.Proofs.YtfpgjkbjbbgciaaGreatDoor
