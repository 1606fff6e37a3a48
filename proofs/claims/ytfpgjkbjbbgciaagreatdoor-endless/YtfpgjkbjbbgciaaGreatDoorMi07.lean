import Derived.Test.YtfpgjkbjbbgciaaGreatDoorMi05
import Derived.Test.YtfpgjkbjbbgciaaGreatDoorMi06
set_option maxRecDepth 100000
set_option maxHeartbeats 8000000
namespace Go.Proofs.YtfpgjkbjbbgciaaGreatDoor
open Go.RowKit Sp
theorem zgv{w w':World}{B:Nat}(h:Lib.Utf8Tabs 1 2 w)(hb:Below B w w')(hB:3≤B):Lib.Utf8Tabs 1 2 w' :=
 ⟨fun c hc=>(hb.cell (p:=⟨1,c,none⟩) (by show 1<B;omega)).trans (h.1 c hc),fun i hi=>⟨(hb.cell (p:=⟨2,2*i,none⟩) (by show 2<B;omega)).trans (h.2 i hi).1,(hb.cell (p:=⟨2,2*i+1,none⟩) (by show 2<B;omega)).trans (h.2 i hi).2⟩⟩
theorem zgw{w w':World}{k base:Nat}{s:ByteArray}{pos:Nat}{v:Value}{n:Nat}{xs:List Value}(hk:w.heap[k]?=some (.stringIter s pos))(hown:w.ownsRow base 9 1 v n xs)(hkb:k<base)(hg:w.grownBy w' v.ownBlock):w'.heap[k]?=some (.stringIter s pos):=by
 have hlt:k<w.heap.size:=(Array.getElem?_eq_some_iff.1 hk).1
 rw [hg.block k hlt (fun e=>by have:=(hown.lt k e.symm).1;omega)]
 exact hk
theorem zgx{w:World}{k:Nat}{s:ByteArray}{pos:Nat}(o:Obj)(hk:w.heap[k]?=some (.stringIter s pos)):(w.alloc o).heap[k]?=some (.stringIter s pos):=by
 have hlt:k<w.heap.size:=(Array.getElem?_eq_some_iff.1 hk).1
 exact(Below.heap_alloc w o k hlt).trans hk
theorem zgy{w w':World}{k B:Nat}{s:ByteArray}{pos:Nat}(hk:w.heap[k]?=some (.stringIter s pos))(hb:Below B w w')(hB:w.heap.size≤B):w'.heap[k]?=some (.stringIter s pos):=by
 have hlt:k<w.heap.size:=(Array.getElem?_eq_some_iff.1 hk).1
 rw [hb.block k (by omega)];exact hk
inductive At(s:ByteArray)(pos:Nat)(acc:List ByteArray):Int→Bool→Prop
 | out (h:zbv s=acc):At s pos acc (-1) true
 | gap (h:zbv s=zaD s pos ByteArray.empty acc):At s pos acc (-1) false
 | word (b:Nat) (hb:b<pos) (h:zbv s=zaD s pos (s.extract b pos) acc):At s pos acc (b:Int) false
def zsb(s:ByteArray)(line:Int)(w:World):Ending→World→Prop:=fun e w' =>
 Below w.heap.size w w'∧(za0 s 0=true∧(∃ v,e=.returned v∧w'.ownsRow w.heap.size 9 1 v (zbv s).length ((zbv s).map Value.string))∨za0 s 0=false∧e=zak 1 line)
theorem zvm{w:World}{base:Nat}{v:Value}{n:Nat}{xs:List Value}(h:w.ownsRow base 9 1 v n xs){k:Nat}(hk:k<base)(s:ByteArray)(p:Nat):(w.iterAt k s p).ownsRow base 9 1 v n xs:=ownsRow_iterAt h hk s p
theorem zht(s:ByteArray)(b pos:Nat)(hb:b<pos)(hp:pos≤s.size):¬(s.extract b pos).size=0:=by rw [ByteArray.size_extract];omega
theorem zsc(s:ByteArray)(i:Nat)(hi:i<s.size)(h0:¬(chr s i).1=0)(h:128≤(chr s i).2):¬chrN s i=1:=by
 intro e
 have hp:=zde s i hi h0
 by_cases hb:bt s i<128
 ·rw [zmT s i hb] at h;simp at h;omega
 ·unfold chrN at e hp
  unfold chr at e h0
  rw [if_neg hb] at e h0
  split at e
  ·rename_i hc
   rw [if_pos hc] at h0
   rcases zb9 2 128 (zdC s (i+1) 1 (bt s i-192)) with h'|⟨v,_,h2,_,_⟩
   ·rw [h'] at h0;exact absurd rfl h0
   ·rw [h2] at e;simp at e
  ·rename_i hc
   rw [if_neg hc] at h0
   split at e
   ·rename_i hd
    rw [if_pos hd] at h0
    rcases zb9 3 2048 (zdC s (i+1) 2 (bt s i-224)) with h'|⟨v,_,h2,_,_⟩
    ·rw [h'] at h0;exact absurd rfl h0
    ·rw [h2] at e;simp at e
   ·rename_i hd
    rw [if_neg hd] at h0
    split at e
    ·rename_i he
     rw [if_pos he] at h0
     rcases zb9 4 65536 (zdC s (i+1) 3 (bt s i-240)) with h'|⟨v,_,h2,_,_⟩
     ·rw [h'] at h0;exact absurd rfl h0
     ·rw [h2] at e;simp at e
    ·simp at e
theorem zsd(b:Int):((b != 32)=true∧(b != 9)=true∧(b == 59)=false∧¬(b=32∨b=9∨b=59))∨((b != 32)=false∧(b == 59)=false∧b=32)∨((b != 32)=true∧(b != 9)=false∧(b == 59)=false∧b=9)∨((b == 59)=true∧b=59):=by
 by_cases h1:b=32
 ·subst h1;simp
 ·by_cases h2:b=9
  ·subst h2;simp
  ·by_cases h3:b=59
   ·subst h3;simp
   ·left;simp [h1,h2,h3]
theorem zgz(s:ByteArray)(line:Int)(w:World)(hw:LibW w)(hs:s.size≤1048576):
  Calls Tryz.prog 98 #[.string s,.int .i64 line] w (zsb s line w):=by
 obtain⟨i0,hi,hz0,hz1,hz2⟩:=info_parts Tryz.info9
 have htabs0:=hw.tabs
 have hlow:=hw.low
 have hk0:(w.iter s 0).heap[w.heap.size]?=some (.stringIter s 0):=World.iter_heap w s 0
 have hb0:Below w.heap.size w (w.iter s 0):=(Below.refl _ w).alloc (Nat.le_refl _) _
 go_enter Tryz.func98,Tryz.ntmps98
 go_wp2
 go_loopw [5,6,7] (fun v tb tl wr=>∃(pos:Nat) (acc:List ByteArray) (bg:Int) (lo:Bool),pos≤s.size∧acc.length≤pos∧tb=.int .i64 bg∧tl=.bool lo∧wr.heap[w.heap.size]?=some (.stringIter s pos)∧wr.ownsRow (w.heap.size+1) 9 1 v acc.length (acc.map Value.string)∧Below w.heap.size w wr∧za0 s 0=za0 s pos∧At s pos acc bg lo) (fun _ _ _ wr=>s.size-wr.iterPos w.heap.size)
 case atStart=>exact⟨0,[],-1,false,by omega,by simp,rfl,rfl,hk0,World.ownsRow_nil _ _ _ _,hb0,rfl,.gap rfl⟩
 case round =>
  obtain⟨pos,acc,bg,lo,hp,hacc,rfl,rfl,hk,hown,hnx,hV,hA⟩:=hrel
  have HV:Hid (za0 s 0=za0 s pos):=hV
  clear hV hk0 hb0
  have HMU:Hid (wr.iterPos w.heap.size=pos):=by unfold Hid;simp [World.iterPos,hk]
  have hsz:=hnx.size
  by_cases hlt:pos<s.size
  ·by_cases h0:(chr s pos).1=0
   ·
    have hnext:=zkj wr w.heap.size s pos hk hlt h0
    have hb1:=Lib.below_iterAt hnx (Nat.le_refl _) s (pos+1)
    generalize wr.iterAt w.heap.size s (pos+1)=W1 at hnext hb1
    have htabs:=zgv htabs0 hb1 (by omega)
    have HF:Hid (za0 s 0=false):=by unfold Hid;rw [HV.out,zmO s pos hlt h0]
    have hd:(((Utf8.decode s pos).2:Int) == 1)=true:=by rw [(zgr s pos).1 h0];rfl
    clear hA hown hk
    go_wp2_with(first|(go_at_call 126;refine(zeJ s pos _ htabs hlt).mono ?_;rintro e W2 ⟨rfl,hb2⟩)|(go_at_call 79;refine(zay _ _ _).mono ?_;rintro e wx ⟨rfl,hww⟩;have h2:=hww.symm;subst h2))
    exact⟨rfl,hb1.trans (hb2.mono hb1.size),.inr ⟨HF.out,rfl⟩⟩
   ·have hpp:=zde s pos hlt h0
    obtain⟨_,hp2,hp3,hp4,hp5,hp6⟩:=hpp
    have hnext:=zfH wr w.heap.size s pos hk hlt h0
    have hb1:=Lib.below_iterAt hnx (Nat.le_refl _) s (pos+chrN s pos)
    have hk1:=Lib.iterAt_heap wr w.heap.size s pos (pos+chrN s pos) hk
    have hown1:=zvm hown (Nat.lt_succ_self _) s (pos+chrN s pos)
    have hsz1:(wr.iterAt w.heap.size s (pos+chrN s pos)).heap.size=wr.heap.size:=Lib.iterAt_size _ _ _ _
    generalize wr.iterAt w.heap.size s (pos+chrN s pos)=W1 at hnext hb1 hk1 hown1 hsz1
    have hszW:w.heap.size+1≤W1.heap.size:=by
     have:=(Array.getElem?_eq_some_iff.1 hk1).1;omega
    have htabs:=zgv htabs0 hb1 (by omega)
    have HV1:Hid (za0 s 0=za0 s (pos+chrN s pos)):=by unfold Hid;rw [HV.out,zgQ s pos hlt h0]
    have HMU1:Hid (W1.iterPos w.heap.size=pos+chrN s pos):=by unfold Hid;simp [World.iterPos,hk1]
    have HCH:Hid (¬(chr s pos).1=0):=h0
    clear hsz1 hown hk h0
    cases hf:((chr s pos).2 == 65533) with
    | true =>
     have hfe:(chr s pos).2=65533:=by simpa using hf
     have hd:(((Utf8.decode s pos).2:Int) == 1)=false:=by
      rw [(zgr s pos).2 HCH.out]
      show(((chrN s pos:Nat):Int) == 1)=false
      have:¬chrN s pos=1:=by
       intro e
       rcases zhW s pos hlt HCH.out with ⟨ha,hb⟩|⟨_,_⟩
       ·rw [hb] at hfe;simp at hfe;omega
       ·have hq:=zsc s pos hlt HCH.out (by omega)
        omega
      simp;omega
     have h59:((chr s pos).2 == 59)=false:=by rw [hfe];rfl
     have h32:((chr s pos).2 != 32)=true:=by rw [hfe];rfl
     have h9:((chr s pos).2 != 9)=true:=by rw [hfe];rfl
     have HFE:Hid ((chr s pos).2=65533):=hfe
     clear hfe
     cases hA with
     | out h =>
      have HW:Hid (zbv s=acc):=h
      clear h
      go_wp2_with(go_at_call 126;refine(zeJ s pos _ htabs hlt).mono ?_;rintro e W2 ⟨rfl,hb2⟩)
      have hk2:=zgy hk1 hb2 (Nat.le_refl _)
      have hown2:=zbw hown1 hb2 (Nat.le_refl _)
      have hb12:=hb1.trans (hb2.mono hb1.size)
      have HMU2:Hid (W2.iterPos w.heap.size=pos+chrN s pos):=by unfold Hid;simp [World.iterPos,hk2]
      go_roundw
      case rel=>exact⟨pos+chrN s pos,acc,-1,true,by omega,by omega,rfl,rfl,hk2,hown2,hb12,HV1.out,.out HW.out⟩
      case measure=>rw [HMU.out,HMU2.out];omega
     | gap h =>
      have hfe:=HFE.out
      have HW:Hid (zbv s=zaD s (pos+chrN s pos) (s.extract pos (pos+chrN s pos)) acc):=by
       unfold Hid;rw [h,zeN s pos _ acc hlt HCH.out (by omega)];congr 1 <;> simp
      clear h
      clear hfe
      go_wp2_with(go_at_call 126;refine(zeJ s pos _ htabs hlt).mono ?_;rintro e W2 ⟨rfl,hb2⟩)
      have hk2:=zgy hk1 hb2 (Nat.le_refl _)
      have hown2:=zbw hown1 hb2 (Nat.le_refl _)
      have hb12:=hb1.trans (hb2.mono hb1.size)
      have HMU2:Hid (W2.iterPos w.heap.size=pos+chrN s pos):=by unfold Hid;simp [World.iterPos,hk2]
      go_roundw
      case rel=>exact⟨pos+chrN s pos,acc,(pos:Int),false,by omega,by omega,rfl,rfl,hk2,hown2,hb12,HV1.out,.word pos (by omega) HW.out⟩
      case measure=>rw [HMU.out,HMU2.out];omega
     | word b hb h =>
      have hfe:=HFE.out
      have HW:Hid (zbv s=zaD s (pos+chrN s pos) (s.extract b (pos+chrN s pos)) acc):=by
       unfold Hid;rw [h,zeN s pos _ acc hlt HCH.out (by omega),zna s b pos _ (by omega) (by omega)]
      clear h
      clear hfe
      go_wp2_with(go_at_call 126;refine(zeJ s pos _ htabs hlt).mono ?_;rintro e W2 ⟨rfl,hb2⟩)
      have hk2:=zgy hk1 hb2 (Nat.le_refl _)
      have hown2:=zbw hown1 hb2 (Nat.le_refl _)
      have hb12:=hb1.trans (hb2.mono hb1.size)
      have HMU2:Hid (W2.iterPos w.heap.size=pos+chrN s pos):=by unfold Hid;simp [World.iterPos,hk2]
      go_roundw
      case rel=>exact⟨pos+chrN s pos,acc,(b:Int),false,by omega,by omega,rfl,rfl,hk2,hown2,hb12,HV1.out,.word b (by omega) HW.out⟩
      case measure=>rw [HMU.out,HMU2.out];omega
    | false =>
     rcases zsd (chr s pos).2 with ⟨h1,h2,h3,h4⟩|⟨h1,h3,h4⟩|⟨h1,h2,h3,h4⟩|⟨h3,h4⟩
     ·have H4:Hid (¬((chr s pos).2=32∨(chr s pos).2=9∨(chr s pos).2=59)):=h4
      clear h4
      cases hA with
      | out h =>
       have HW:Hid (zbv s=acc):=h
       clear h
       go_wp2
       go_roundw
       case rel=>exact⟨pos+chrN s pos,acc,-1,true,by omega,by omega,rfl,rfl,hk1,hown1,hb1,HV1.out,.out HW.out⟩
       case measure=>rw [HMU.out,HMU1.out];omega
      | gap h =>
       have HW:Hid (zbv s=zaD s (pos+chrN s pos) (s.extract pos (pos+chrN s pos)) acc):=by
        unfold Hid;rw [h,zeN s pos _ acc hlt HCH.out H4.out];congr 1 <;> simp
       clear h
       go_wp2
       go_roundw
       case rel=>exact⟨pos+chrN s pos,acc,(pos:Int),false,by omega,by omega,rfl,rfl,hk1,hown1,hb1,HV1.out,.word pos (by omega) HW.out⟩
       case measure=>rw [HMU.out,HMU1.out];omega
      | word b hb h =>
       have HW:Hid (zbv s=zaD s (pos+chrN s pos) (s.extract b (pos+chrN s pos)) acc):=by
        unfold Hid;rw [h,zeN s pos _ acc hlt HCH.out H4.out,zna s b pos _ (by omega) (by omega)]
       clear h
       go_wp2
       go_roundw
       case rel=>exact⟨pos+chrN s pos,acc,(b:Int),false,by omega,by omega,rfl,rfl,hk1,hown1,hb1,HV1.out,.word b (by omega) HW.out⟩
       case measure=>rw [HMU.out,HMU1.out];omega
     ·have hbl:=zhX s pos hlt HCH.out (by omega)
      have HB:Hid (bt s pos=32∧chrN s pos=1):=⟨by rw [hbl.1,h4],hbl.2⟩
      clear hbl h4
      cases hA with
      | out h =>
       have HW:Hid (zbv s=acc):=h
       clear h
       go_wp2
       go_roundw
       case rel=>exact⟨pos+chrN s pos,acc,-1,true,by omega,by omega,rfl,rfl,hk1,hown1,hb1,HV1.out,.out HW.out⟩
       case measure=>rw [HMU.out,HMU1.out];omega
      | gap h =>
       have HW:Hid (zbv s=zaD s (pos+chrN s pos) ByteArray.empty acc):=by
        unfold Hid;rw [h,zcr s pos _ acc hlt (by have:=HB.out.1;omega),HB.out.2];rfl
       clear h
       go_wp2
       go_roundw
       case rel=>exact⟨pos+chrN s pos,acc,-1,false,by omega,by omega,rfl,rfl,hk1,hown1,hb1,HV1.out,.gap HW.out⟩
       case measure=>rw [HMU.out,HMU1.out];omega
      | word b hb h =>
       have HW:Hid (zbv s=zaD s (pos+chrN s pos) ByteArray.empty (acc++[s.extract b pos])):=by
        unfold Hid;rw [h,zcr s pos _ acc hlt (by have:=HB.out.1;omega),HB.out.2,zfG _ _ (zht s b pos hb hp)]
       clear h
       go_wp2_with(at_builtin;refine wpList_append_own _ rfl _ _ 67 rfl (w.heap.size+1) 9 i0 (.string ByteArray.empty) 1 16 Tryz.under67 hi hz0 hz1 hz2 rfl (by decide) _ _ _ rfl (hown1.alloc _) ⟨W1.heap.size,0,none⟩ 1 1 [.string (s.extract b pos)] rfl rfl (cell_one_new _ _ _) (zdx _) (by unfold maxLen;omega) (by omega) (by simp;omega) ?_)
       intro v' w3 hown' hgrow _
       have hb3:Below w.heap.size w w3:=(hb1.alloc hb1.size _).grown hgrow (by simp;omega) (fun j hj=>by have:=(hown1.lt j hj).1;omega)
       have hk3:=zgw (zgx _ hk1) (hown1.alloc _) (Nat.lt_succ_self _) hgrow
       have HMU3:Hid (w3.iterPos w.heap.size=pos+chrN s pos):=by unfold Hid;simp [World.iterPos,hk3]
       clear hgrow
       go_wp2
       go_roundw
       case rel=>exact⟨pos+chrN s pos,acc++[s.extract b pos],-1,false,by omega,by simp;omega,rfl,rfl,hk3,by simpa using hown',hb3,HV1.out,.gap HW.out⟩
       case measure=>rw [HMU.out,HMU3.out];omega
     ·have hbl:=zhX s pos hlt HCH.out (by omega)
      have HB:Hid (bt s pos=9∧chrN s pos=1):=⟨by rw [hbl.1,h4],hbl.2⟩
      clear hbl h4
      cases hA with
      | out h =>
       have HW:Hid (zbv s=acc):=h
       clear h
       go_wp2
       go_roundw
       case rel=>exact⟨pos+chrN s pos,acc,-1,true,by omega,by omega,rfl,rfl,hk1,hown1,hb1,HV1.out,.out HW.out⟩
       case measure=>rw [HMU.out,HMU1.out];omega
      | gap h =>
       have HW:Hid (zbv s=zaD s (pos+chrN s pos) ByteArray.empty acc):=by
        unfold Hid;rw [h,zcr s pos _ acc hlt (by have:=HB.out.1;omega),HB.out.2];rfl
       clear h
       go_wp2
       go_roundw
       case rel=>exact⟨pos+chrN s pos,acc,-1,false,by omega,by omega,rfl,rfl,hk1,hown1,hb1,HV1.out,.gap HW.out⟩
       case measure=>rw [HMU.out,HMU1.out];omega
      | word b hb h =>
       have HW:Hid (zbv s=zaD s (pos+chrN s pos) ByteArray.empty (acc++[s.extract b pos])):=by
        unfold Hid;rw [h,zcr s pos _ acc hlt (by have:=HB.out.1;omega),HB.out.2,zfG _ _ (zht s b pos hb hp)]
       clear h
       go_wp2_with(at_builtin;refine wpList_append_own _ rfl _ _ 67 rfl (w.heap.size+1) 9 i0 (.string ByteArray.empty) 1 16 Tryz.under67 hi hz0 hz1 hz2 rfl (by decide) _ _ _ rfl (hown1.alloc _) ⟨W1.heap.size,0,none⟩ 1 1 [.string (s.extract b pos)] rfl rfl (cell_one_new _ _ _) (zdx _) (by unfold maxLen;omega) (by omega) (by simp;omega) ?_)
       intro v' w3 hown' hgrow _
       have hb3:Below w.heap.size w w3:=(hb1.alloc hb1.size _).grown hgrow (by simp;omega) (fun j hj=>by have:=(hown1.lt j hj).1;omega)
       have hk3:=zgw (zgx _ hk1) (hown1.alloc _) (Nat.lt_succ_self _) hgrow
       have HMU3:Hid (w3.iterPos w.heap.size=pos+chrN s pos):=by unfold Hid;simp [World.iterPos,hk3]
       clear hgrow
       go_wp2
       go_roundw
       case rel=>exact⟨pos+chrN s pos,acc++[s.extract b pos],-1,false,by omega,by simp;omega,rfl,rfl,hk3,by simpa using hown',hb3,HV1.out,.gap HW.out⟩
       case measure=>rw [HMU.out,HMU3.out];omega
     ·have hbl:=zhX s pos hlt HCH.out (by omega)
      have HB:Hid (bt s pos=59∧chrN s pos=1):=⟨by rw [hbl.1,h4],hbl.2⟩
      clear hbl h4
      cases hA with
      | out h =>
       have HW:Hid (zbv s=acc):=h
       clear h
       go_wp2
       go_roundw
       case rel=>exact⟨pos+chrN s pos,acc,-1,true,by omega,by omega,rfl,rfl,hk1,hown1,hb1,HV1.out,.out HW.out⟩
       case measure=>rw [HMU.out,HMU1.out];omega
      | gap h =>
       have HW:Hid (zbv s=acc):=by
        unfold Hid;rw [h,zcT s pos _ acc hlt HB.out.1];rfl
       clear h
       go_wp2
       go_roundw
       case rel=>exact⟨pos+chrN s pos,acc,-1,true,by omega,by omega,rfl,rfl,hk1,hown1,hb1,HV1.out,.out HW.out⟩
       case measure=>rw [HMU.out,HMU1.out];omega
      | word b hb h =>
       have HW:Hid (zbv s=acc++[s.extract b pos]):=by
        unfold Hid;rw [h,zcT s pos _ acc hlt HB.out.1,zfG _ _ (zht s b pos hb hp)]
       clear h
       go_wp2_with(at_builtin;refine wpList_append_own _ rfl _ _ 67 rfl (w.heap.size+1) 9 i0 (.string ByteArray.empty) 1 16 Tryz.under67 hi hz0 hz1 hz2 rfl (by decide) _ _ _ rfl (hown1.alloc _) ⟨W1.heap.size,0,none⟩ 1 1 [.string (s.extract b pos)] rfl rfl (cell_one_new _ _ _) (zdx _) (by unfold maxLen;omega) (by omega) (by simp;omega) ?_)
       intro v' w3 hown' hgrow _
       have hb3:Below w.heap.size w w3:=(hb1.alloc hb1.size _).grown hgrow (by simp;omega) (fun j hj=>by have:=(hown1.lt j hj).1;omega)
       have hk3:=zgw (zgx _ hk1) (hown1.alloc _) (Nat.lt_succ_self _) hgrow
       have HMU3:Hid (w3.iterPos w.heap.size=pos+chrN s pos):=by unfold Hid;simp [World.iterPos,hk3]
       clear hgrow
       go_wp2
       go_roundw
       case rel=>exact⟨pos+chrN s pos,acc++[s.extract b pos],-1,true,by omega,by simp;omega,rfl,rfl,hk3,by simpa using hown',hb3,HV1.out,.out HW.out⟩
       case measure=>rw [HMU.out,HMU3.out];omega
  ·have hnext:∀ ty,(Instr.next (.pointer (some ⟨w.heap.size,0,none⟩)) true ty).run Tryz.prog wr=.ok (.tuple #[.bool false]) wr:=fun ty=>Lib.run_next_end_at wr w.heap.size s pos ty hk hlt
   have HT:Hid (za0 s 0=true):=by unfold Hid;rw [HV.out,zhE s pos hlt]
   cases hA with
   | out h =>
    have HW:Hid (zbv s=acc):=h
    clear h
    go_wp2
    go_ret
    exact⟨hnx,.inl ⟨HT.out,_,rfl,by rw [HW.out];exact zbV hown (by omega)⟩⟩
   | gap h =>
    have HW:Hid (zbv s=acc):=by unfold Hid;rw [h,zdk s pos _ acc hlt];rfl
    clear h
    go_wp2
    go_ret
    exact⟨hnx,.inl ⟨HT.out,_,rfl,by rw [HW.out];exact zbV hown (by omega)⟩⟩
   | word b hb h =>
    have hpe:pos=s.size:=by omega
    have HW:Hid (zbv s=acc++[s.extract b s.size]):=by
     unfold Hid;rw [h,zdk s pos _ acc hlt,zfG _ _ (zht s b pos hb hp),hpe]
    clear h hpe
    have hown1:=hown
    have hbs:b<s.size:=by omega
    have hszW:w.heap.size+1≤wr.heap.size:=by
     have:=(Array.getElem?_eq_some_iff.1 hk).1;omega
    go_wp2_with(at_builtin;refine wpList_append_own _ rfl _ _ 67 rfl (w.heap.size+1) 9 i0 (.string ByteArray.empty) 1 16 Tryz.under67 hi hz0 hz1 hz2 rfl (by decide) _ _ _ rfl (hown1.alloc _) ⟨wr.heap.size,0,none⟩ 1 1 [.string (s.extract b s.size)] rfl rfl (cell_one_new _ _ _) (zdx _) (by unfold maxLen;omega) (by omega) (by simp;omega) ?_)
    intro v' w3 hown' hgrow _
    have hb3:Below w.heap.size w w3:=(hnx.alloc hnx.size _).grown hgrow (by simp;omega) (fun j hj=>by have:=(hown.lt j hj).1;omega)
    clear hgrow
    go_wp2
    go_ret
    exact⟨hb3,.inl ⟨HT.out,_,rfl,by rw [HW.out];exact zbV (by simpa using hown') (by omega)⟩⟩
end Go.Proofs.YtfpgjkbjbbgciaaGreatDoor
