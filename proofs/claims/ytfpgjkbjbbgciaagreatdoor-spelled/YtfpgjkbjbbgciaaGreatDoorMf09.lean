import Derived.Test.YtfpgjkbjbbgciaaGreatDoorMf06
import Derived.Test.YtfpgjkbjbbgciaaGreatDoorMf07
import Derived.Test.YtfpgjkbjbbgciaaGreatDoorMf08
set_option maxRecDepth 100000
set_option maxHeartbeats 8000000
namespace Go.Proofs.YtfpgjkbjbbgciaaGreatDoor
open Go.RowKit Sp
theorem ze9 {w w' : World} {B : Nat} (h : Lib.Utf8Tabs 1 2 w) (hb : Below B w w') (hB : 3 ≤ B) : Lib.Utf8Tabs 1 2 w' :=
 ⟨fun c hc => (hb.cell (p:=⟨1,c,none⟩) (by show 1 < B; omega)).trans (h.1 c hc),fun i hi => ⟨(hb.cell (p:=⟨2,2 * i,none⟩) (by show 2 < B; omega)).trans (h.2 i hi).1,(hb.cell (p:=⟨2,2 * i + 1,none⟩) (by show 2 < B; omega)).trans (h.2 i hi).2⟩⟩
theorem zeA {w w' : World} {k base : Nat} {s : ByteArray} {pos : Nat} {v : Value} {n : Nat} {xs : List Value} (hk : w.heap[k]? = some (.stringIter s pos)) (hown : w.ownsRow base 9 1 v n xs) (hkb : k < base) (hg : w.grownBy w' v.ownBlock) : w'.heap[k]? = some (.stringIter s pos):=by
 have hlt : k < w.heap.size:=(Array.getElem?_eq_some_iff.1 hk).1
 rw [hg.block k hlt (fun e => by have:=(hown.lt k e.symm).1; omega)]
 exact hk
theorem zeB {w : World} {k : Nat} {s : ByteArray} {pos : Nat} (o : Obj) (hk : w.heap[k]? = some (.stringIter s pos)) : (w.alloc o).heap[k]? = some (.stringIter s pos):=by
 have hlt : k < w.heap.size:=(Array.getElem?_eq_some_iff.1 hk).1
 exact (Below.heap_alloc w o k hlt).trans hk
theorem zeC {w w' : World} {k B : Nat} {s : ByteArray} {pos : Nat} (hk : w.heap[k]? = some (.stringIter s pos)) (hb : Below B w w') (hB : w.heap.size ≤ B) : w'.heap[k]? = some (.stringIter s pos):=by
 have hlt : k < w.heap.size:=(Array.getElem?_eq_some_iff.1 hk).1
 rw [hb.block k (by omega)]; exact hk
inductive At (s : ByteArray) (pos : Nat) (acc : List ByteArray) : Int → Bool → Prop
 | out (h : zs4 s = acc) : At s pos acc (-1) true
 | gap (h : zs4 s = zay s pos ByteArray.empty acc) : At s pos acc (-1) false
 | word (b : Nat) (hb : b < pos) (h : zs4 s = zay s pos (s.extract b pos) acc) : At s pos acc (b : Int) false
def zmK (s : ByteArray) (line : Int) (w : World) : Ending → World → Prop:=fun e w' =>
 Below w.heap.size w w' ∧ (zar s 0 = true ∧ (∃ v,e = .returned v ∧ w'.ownsRow w.heap.size 9 1 v (zs4 s).length ((zs4 s).map Value.string)) ∨ zar s 0 = false ∧ e = zap 1 line)
theorem zoO {w : World} {base : Nat} {v : Value} {n : Nat} {xs : List Value} (h : w.ownsRow base 9 1 v n xs) {k : Nat} (hk : k < base) (s : ByteArray) (p : Nat) : (w.iterAt k s p).ownsRow base 9 1 v n xs:=ownsRow_iterAt h hk s p
theorem zfs (s : ByteArray) (b pos : Nat) (hb : b < pos) (hp : pos ≤ s.size) : ¬ (s.extract b pos).size = 0:=by rw [ByteArray.size_extract]; omega
theorem zmL (s : ByteArray) (i : Nat) (hi : i < s.size) (h0 : ¬ (chr s i).1 = 0) (h : 128 ≤ (chr s i).2) : ¬ chrN s i = 1:=by
 intro e
 have hp:=zcc s i hi h0
 by_cases hb : bt s i < 128
 ·rw [zjq s i hb] at h; simp at h; omega
 ·unfold chrN at e hp
  unfold chr at e h0
  rw [if_neg hb] at e h0
  split at e
  ·rename_i hc
   rw [if_pos hc] at h0
   rcases zaZ 2 128 (zc3 s (i + 1) 1 (bt s i - 192)) with h' | ⟨v,_,h2,_,_⟩
   ·rw [h'] at h0; exact absurd rfl h0
   ·rw [h2] at e; simp at e
  ·rename_i hc
   rw [if_neg hc] at h0
   split at e
   ·rename_i hd
    rw [if_pos hd] at h0
    rcases zaZ 3 2048 (zc3 s (i + 1) 2 (bt s i - 224)) with h' | ⟨v,_,h2,_,_⟩
    ·rw [h'] at h0; exact absurd rfl h0
    ·rw [h2] at e; simp at e
   ·rename_i hd
    rw [if_neg hd] at h0
    split at e
    ·rename_i he
     rw [if_pos he] at h0
     rcases zaZ 4 65536 (zc3 s (i + 1) 3 (bt s i - 240)) with h' | ⟨v,_,h2,_,_⟩
     ·rw [h'] at h0; exact absurd rfl h0
     ·rw [h2] at e; simp at e
    ·simp at e
theorem zmM (b : Int) : ((b != 32) = true ∧ (b != 9) = true ∧ (b == 59) = false ∧ ¬ (b = 32 ∨ b = 9 ∨ b = 59)) ∨ ((b != 32) = false ∧ (b == 59) = false ∧ b = 32) ∨ ((b != 32) = true ∧ (b != 9) = false ∧ (b == 59) = false ∧ b = 9) ∨ ((b == 59) = true ∧ b = 59):=by
 by_cases h1 : b = 32
 ·subst h1; simp
 ·by_cases h2 : b = 9
  ·subst h2; simp
  ·by_cases h3 : b = 59
   ·subst h3; simp
   ·left; simp [h1,h2,h3]
theorem zeD (s : ByteArray) (line : Int) (w : World) (hw : LibW w) (hs : s.size ≤ 1048576) :
  Calls Tryz.prog 98 #[.string s,.int .i64 line] w (zmK s line w):=by
 obtain ⟨i0,hi,hz0,hz1,hz2⟩:=info_parts Tryz.info9
 have htabs0:=hw.tabs
 have hlow:=hw.low
 have hk0 : (w.iter s 0).heap[w.heap.size]? = some (.stringIter s 0):=World.iter_heap w s 0
 have hb0 : Below w.heap.size w (w.iter s 0):=(Below.refl _ w).alloc (Nat.le_refl _) _
 go_enter Tryz.func98,Tryz.ntmps98
 go_wp2
 go_loopw [5,6,7] (fun v tb tl wr => ∃ (pos : Nat) (acc : List ByteArray) (bg : Int) (lo : Bool),pos ≤ s.size ∧ acc.length ≤ pos ∧ tb = .int .i64 bg ∧ tl = .bool lo ∧ wr.heap[w.heap.size]? = some (.stringIter s pos) ∧ wr.ownsRow (w.heap.size + 1) 9 1 v acc.length (acc.map Value.string) ∧ Below w.heap.size w wr ∧ zar s 0 = zar s pos ∧ At s pos acc bg lo) (fun _ _ _ wr => s.size - wr.iterPos w.heap.size)
 case atStart => exact ⟨0,[],-1,false,by omega,by simp,rfl,rfl,hk0,World.ownsRow_nil _ _ _ _,hb0,rfl,.gap rfl⟩
 case round =>
  obtain ⟨pos,acc,bg,lo,hp,hacc,rfl,rfl,hk,hown,hnx,hV,hA⟩:=hrel
  have HV : Hid (zar s 0 = zar s pos):=hV
  clear hV hk0 hb0
  have HMU : Hid (wr.iterPos w.heap.size = pos):=by unfold Hid; simp [World.iterPos,hk]
  have hsz:=hnx.size
  by_cases hlt : pos < s.size
  ·by_cases h0 : (chr s pos).1 = 0
   ·
    have hnext:=zhh wr w.heap.size s pos hk hlt h0
    have hb1:=Lib.below_iterAt hnx (Nat.le_refl _) s (pos + 1)
    generalize wr.iterAt w.heap.size s (pos + 1) = W1 at hnext hb1
    have htabs:=ze9 htabs0 hb1 (by omega)
    have HF : Hid (zar s 0 = false):=by unfold Hid; rw [HV.out,ziY s pos hlt h0]
    have hd : (((Utf8.decode s pos).2 : Int) == 1) = true:=by rw [(ze8 s pos).1 h0]; rfl
    clear hA hown hk
    go_wp2_with (first | (go_at_call 126; refine (zdr s pos _ htabs hlt).mono ?_; rintro e W2 ⟨rfl,hb2⟩) | (go_at_call 79; refine (zaj _ _ _).mono ?_; rintro e wx ⟨rfl,hww⟩; have h2:=hww.symm; subst h2))
    exact ⟨rfl,hb1.trans (hb2.mono hb1.size),.inr ⟨HF.out,rfl⟩⟩
   ·have hpp:=zcc s pos hlt h0
    obtain ⟨_,hp2,hp3,hp4,hp5,hp6⟩:=hpp
    have hnext:=zek wr w.heap.size s pos hk hlt h0
    have hb1:=Lib.below_iterAt hnx (Nat.le_refl _) s (pos + chrN s pos)
    have hk1:=Lib.iterAt_heap wr w.heap.size s pos (pos + chrN s pos) hk
    have hown1:=zoO hown (Nat.lt_succ_self _) s (pos + chrN s pos)
    have hsz1 : (wr.iterAt w.heap.size s (pos + chrN s pos)).heap.size = wr.heap.size:=Lib.iterAt_size _ _ _ _
    generalize wr.iterAt w.heap.size s (pos + chrN s pos) = W1 at hnext hb1 hk1 hown1 hsz1
    have hszW : w.heap.size + 1 ≤ W1.heap.size:=by
     have:=(Array.getElem?_eq_some_iff.1 hk1).1; omega
    have htabs:=ze9 htabs0 hb1 (by omega)
    have HV1 : Hid (zar s 0 = zar s (pos + chrN s pos)):=by unfold Hid; rw [HV.out,zeY s pos hlt h0]
    have HMU1 : Hid (W1.iterPos w.heap.size = pos + chrN s pos):=by unfold Hid; simp [World.iterPos,hk1]
    have HCH : Hid (¬ (chr s pos).1 = 0):=h0
    clear hsz1 hown hk h0
    cases hf : ((chr s pos).2 == 65533) with
    | true =>
     have hfe : (chr s pos).2 = 65533:=by simpa using hf
     have hd : (((Utf8.decode s pos).2 : Int) == 1) = false:=by
      rw [(ze8 s pos).2 HCH.out]
      show (((chrN s pos : Nat) : Int) == 1) = false
      have : ¬ chrN s pos = 1:=by
       intro e
       rcases zfC s pos hlt HCH.out with ⟨ha,hb⟩ | ⟨_,_⟩
       ·rw [hb] at hfe; simp at hfe; omega
       ·have hq:=zmL s pos hlt HCH.out (by omega)
        omega
      simp; omega
     have h59 : ((chr s pos).2 == 59) = false:=by rw [hfe]; rfl
     have h32 : ((chr s pos).2 != 32) = true:=by rw [hfe]; rfl
     have h9 : ((chr s pos).2 != 9) = true:=by rw [hfe]; rfl
     have HFE : Hid ((chr s pos).2 = 65533):=hfe
     clear hfe
     cases hA with
     | out h =>
      have HW : Hid (zs4 s = acc):=h
      clear h
      go_wp2_with (go_at_call 126; refine (zdr s pos _ htabs hlt).mono ?_; rintro e W2 ⟨rfl,hb2⟩)
      have hk2:=zeC hk1 hb2 (Nat.le_refl _)
      have hown2:=zaS hown1 hb2 (Nat.le_refl _)
      have hb12:=hb1.trans (hb2.mono hb1.size)
      have HMU2 : Hid (W2.iterPos w.heap.size = pos + chrN s pos):=by unfold Hid; simp [World.iterPos,hk2]
      go_roundw
      case rel => exact ⟨pos + chrN s pos,acc,-1,true,by omega,by omega,rfl,rfl,hk2,hown2,hb12,HV1.out,.out HW.out⟩
      case measure => rw [HMU.out,HMU2.out]; omega
     | gap h =>
      have hfe:=HFE.out
      have HW : Hid (zs4 s = zay s (pos + chrN s pos) (s.extract pos (pos + chrN s pos)) acc):=by
       unfold Hid; rw [h,zdo s pos _ acc hlt HCH.out (by omega)]; congr 1 <;> simp
      clear h
      clear hfe
      go_wp2_with (go_at_call 126; refine (zdr s pos _ htabs hlt).mono ?_; rintro e W2 ⟨rfl,hb2⟩)
      have hk2:=zeC hk1 hb2 (Nat.le_refl _)
      have hown2:=zaS hown1 hb2 (Nat.le_refl _)
      have hb12:=hb1.trans (hb2.mono hb1.size)
      have HMU2 : Hid (W2.iterPos w.heap.size = pos + chrN s pos):=by unfold Hid; simp [World.iterPos,hk2]
      go_roundw
      case rel => exact ⟨pos + chrN s pos,acc,(pos : Int),false,by omega,by omega,rfl,rfl,hk2,hown2,hb12,HV1.out,.word pos (by omega) HW.out⟩
      case measure => rw [HMU.out,HMU2.out]; omega
     | word b hb h =>
      have hfe:=HFE.out
      have HW : Hid (zs4 s = zay s (pos + chrN s pos) (s.extract b (pos + chrN s pos)) acc):=by
       unfold Hid; rw [h,zdo s pos _ acc hlt HCH.out (by omega),zja s b pos _ (by omega) (by omega)]
      clear h
      clear hfe
      go_wp2_with (go_at_call 126; refine (zdr s pos _ htabs hlt).mono ?_; rintro e W2 ⟨rfl,hb2⟩)
      have hk2:=zeC hk1 hb2 (Nat.le_refl _)
      have hown2:=zaS hown1 hb2 (Nat.le_refl _)
      have hb12:=hb1.trans (hb2.mono hb1.size)
      have HMU2 : Hid (W2.iterPos w.heap.size = pos + chrN s pos):=by unfold Hid; simp [World.iterPos,hk2]
      go_roundw
      case rel => exact ⟨pos + chrN s pos,acc,(b : Int),false,by omega,by omega,rfl,rfl,hk2,hown2,hb12,HV1.out,.word b (by omega) HW.out⟩
      case measure => rw [HMU.out,HMU2.out]; omega
    | false =>
     rcases zmM (chr s pos).2 with ⟨h1,h2,h3,h4⟩ | ⟨h1,h3,h4⟩ | ⟨h1,h2,h3,h4⟩ | ⟨h3,h4⟩
     ·have H4 : Hid (¬ ((chr s pos).2 = 32 ∨ (chr s pos).2 = 9 ∨ (chr s pos).2 = 59)):=h4
      clear h4
      cases hA with
      | out h =>
       have HW : Hid (zs4 s = acc):=h
       clear h
       go_wp2
       go_roundw
       case rel => exact ⟨pos + chrN s pos,acc,-1,true,by omega,by omega,rfl,rfl,hk1,hown1,hb1,HV1.out,.out HW.out⟩
       case measure => rw [HMU.out,HMU1.out]; omega
      | gap h =>
       have HW : Hid (zs4 s = zay s (pos + chrN s pos) (s.extract pos (pos + chrN s pos)) acc):=by
        unfold Hid; rw [h,zdo s pos _ acc hlt HCH.out H4.out]; congr 1 <;> simp
       clear h
       go_wp2
       go_roundw
       case rel => exact ⟨pos + chrN s pos,acc,(pos : Int),false,by omega,by omega,rfl,rfl,hk1,hown1,hb1,HV1.out,.word pos (by omega) HW.out⟩
       case measure => rw [HMU.out,HMU1.out]; omega
      | word b hb h =>
       have HW : Hid (zs4 s = zay s (pos + chrN s pos) (s.extract b (pos + chrN s pos)) acc):=by
        unfold Hid; rw [h,zdo s pos _ acc hlt HCH.out H4.out,zja s b pos _ (by omega) (by omega)]
       clear h
       go_wp2
       go_roundw
       case rel => exact ⟨pos + chrN s pos,acc,(b : Int),false,by omega,by omega,rfl,rfl,hk1,hown1,hb1,HV1.out,.word b (by omega) HW.out⟩
       case measure => rw [HMU.out,HMU1.out]; omega
     ·have hbl:=zfD s pos hlt HCH.out (by omega)
      have HB : Hid (bt s pos = 32 ∧ chrN s pos = 1):=⟨by rw [hbl.1,h4],hbl.2⟩
      clear hbl h4
      cases hA with
      | out h =>
       have HW : Hid (zs4 s = acc):=h
       clear h
       go_wp2
       go_roundw
       case rel => exact ⟨pos + chrN s pos,acc,-1,true,by omega,by omega,rfl,rfl,hk1,hown1,hb1,HV1.out,.out HW.out⟩
       case measure => rw [HMU.out,HMU1.out]; omega
      | gap h =>
       have HW : Hid (zs4 s = zay s (pos + chrN s pos) ByteArray.empty acc):=by
        unfold Hid; rw [h,zb4 s pos _ acc hlt (by have:=HB.out.1; omega),HB.out.2]; rfl
       clear h
       go_wp2
       go_roundw
       case rel => exact ⟨pos + chrN s pos,acc,-1,false,by omega,by omega,rfl,rfl,hk1,hown1,hb1,HV1.out,.gap HW.out⟩
       case measure => rw [HMU.out,HMU1.out]; omega
      | word b hb h =>
       have HW : Hid (zs4 s = zay s (pos + chrN s pos) ByteArray.empty (acc ++ [s.extract b pos])):=by
        unfold Hid; rw [h,zb4 s pos _ acc hlt (by have:=HB.out.1; omega),HB.out.2,zel _ _ (zfs s b pos hb hp)]
       clear h
       go_wp2_with (at_builtin; refine wpList_append_own _ rfl _ _ 67 rfl (w.heap.size + 1) 9 i0 (.string ByteArray.empty) 1 16 Tryz.under67 hi hz0 hz1 hz2 rfl (by decide) _ _ _ rfl (hown1.alloc _) ⟨W1.heap.size,0,none⟩ 1 1 [.string (s.extract b pos)] rfl rfl (cell_one_new _ _ _) (zcv _) (by unfold maxLen; omega) (by omega) (by simp; omega) ?_)
       intro v' w3 hown' hgrow _
       have hb3 : Below w.heap.size w w3:=(hb1.alloc hb1.size _).grown hgrow (by simp; omega) (fun j hj => by have:=(hown1.lt j hj).1; omega)
       have hk3:=zeA (zeB _ hk1) (hown1.alloc _) (Nat.lt_succ_self _) hgrow
       have HMU3 : Hid (w3.iterPos w.heap.size = pos + chrN s pos):=by unfold Hid; simp [World.iterPos,hk3]
       clear hgrow
       go_wp2
       go_roundw
       case rel => exact ⟨pos + chrN s pos,acc ++ [s.extract b pos],-1,false,by omega,by simp; omega,rfl,rfl,hk3,by simpa using hown',hb3,HV1.out,.gap HW.out⟩
       case measure => rw [HMU.out,HMU3.out]; omega
     ·have hbl:=zfD s pos hlt HCH.out (by omega)
      have HB : Hid (bt s pos = 9 ∧ chrN s pos = 1):=⟨by rw [hbl.1,h4],hbl.2⟩
      clear hbl h4
      cases hA with
      | out h =>
       have HW : Hid (zs4 s = acc):=h
       clear h
       go_wp2
       go_roundw
       case rel => exact ⟨pos + chrN s pos,acc,-1,true,by omega,by omega,rfl,rfl,hk1,hown1,hb1,HV1.out,.out HW.out⟩
       case measure => rw [HMU.out,HMU1.out]; omega
      | gap h =>
       have HW : Hid (zs4 s = zay s (pos + chrN s pos) ByteArray.empty acc):=by
        unfold Hid; rw [h,zb4 s pos _ acc hlt (by have:=HB.out.1; omega),HB.out.2]; rfl
       clear h
       go_wp2
       go_roundw
       case rel => exact ⟨pos + chrN s pos,acc,-1,false,by omega,by omega,rfl,rfl,hk1,hown1,hb1,HV1.out,.gap HW.out⟩
       case measure => rw [HMU.out,HMU1.out]; omega
      | word b hb h =>
       have HW : Hid (zs4 s = zay s (pos + chrN s pos) ByteArray.empty (acc ++ [s.extract b pos])):=by
        unfold Hid; rw [h,zb4 s pos _ acc hlt (by have:=HB.out.1; omega),HB.out.2,zel _ _ (zfs s b pos hb hp)]
       clear h
       go_wp2_with (at_builtin; refine wpList_append_own _ rfl _ _ 67 rfl (w.heap.size + 1) 9 i0 (.string ByteArray.empty) 1 16 Tryz.under67 hi hz0 hz1 hz2 rfl (by decide) _ _ _ rfl (hown1.alloc _) ⟨W1.heap.size,0,none⟩ 1 1 [.string (s.extract b pos)] rfl rfl (cell_one_new _ _ _) (zcv _) (by unfold maxLen; omega) (by omega) (by simp; omega) ?_)
       intro v' w3 hown' hgrow _
       have hb3 : Below w.heap.size w w3:=(hb1.alloc hb1.size _).grown hgrow (by simp; omega) (fun j hj => by have:=(hown1.lt j hj).1; omega)
       have hk3:=zeA (zeB _ hk1) (hown1.alloc _) (Nat.lt_succ_self _) hgrow
       have HMU3 : Hid (w3.iterPos w.heap.size = pos + chrN s pos):=by unfold Hid; simp [World.iterPos,hk3]
       clear hgrow
       go_wp2
       go_roundw
       case rel => exact ⟨pos + chrN s pos,acc ++ [s.extract b pos],-1,false,by omega,by simp; omega,rfl,rfl,hk3,by simpa using hown',hb3,HV1.out,.gap HW.out⟩
       case measure => rw [HMU.out,HMU3.out]; omega
     ·have hbl:=zfD s pos hlt HCH.out (by omega)
      have HB : Hid (bt s pos = 59 ∧ chrN s pos = 1):=⟨by rw [hbl.1,h4],hbl.2⟩
      clear hbl h4
      cases hA with
      | out h =>
       have HW : Hid (zs4 s = acc):=h
       clear h
       go_wp2
       go_roundw
       case rel => exact ⟨pos + chrN s pos,acc,-1,true,by omega,by omega,rfl,rfl,hk1,hown1,hb1,HV1.out,.out HW.out⟩
       case measure => rw [HMU.out,HMU1.out]; omega
      | gap h =>
       have HW : Hid (zs4 s = acc):=by
        unfold Hid; rw [h,zbQ s pos _ acc hlt HB.out.1]; rfl
       clear h
       go_wp2
       go_roundw
       case rel => exact ⟨pos + chrN s pos,acc,-1,true,by omega,by omega,rfl,rfl,hk1,hown1,hb1,HV1.out,.out HW.out⟩
       case measure => rw [HMU.out,HMU1.out]; omega
      | word b hb h =>
       have HW : Hid (zs4 s = acc ++ [s.extract b pos]):=by
        unfold Hid; rw [h,zbQ s pos _ acc hlt HB.out.1,zel _ _ (zfs s b pos hb hp)]
       clear h
       go_wp2_with (at_builtin; refine wpList_append_own _ rfl _ _ 67 rfl (w.heap.size + 1) 9 i0 (.string ByteArray.empty) 1 16 Tryz.under67 hi hz0 hz1 hz2 rfl (by decide) _ _ _ rfl (hown1.alloc _) ⟨W1.heap.size,0,none⟩ 1 1 [.string (s.extract b pos)] rfl rfl (cell_one_new _ _ _) (zcv _) (by unfold maxLen; omega) (by omega) (by simp; omega) ?_)
       intro v' w3 hown' hgrow _
       have hb3 : Below w.heap.size w w3:=(hb1.alloc hb1.size _).grown hgrow (by simp; omega) (fun j hj => by have:=(hown1.lt j hj).1; omega)
       have hk3:=zeA (zeB _ hk1) (hown1.alloc _) (Nat.lt_succ_self _) hgrow
       have HMU3 : Hid (w3.iterPos w.heap.size = pos + chrN s pos):=by unfold Hid; simp [World.iterPos,hk3]
       clear hgrow
       go_wp2
       go_roundw
       case rel => exact ⟨pos + chrN s pos,acc ++ [s.extract b pos],-1,true,by omega,by simp; omega,rfl,rfl,hk3,by simpa using hown',hb3,HV1.out,.out HW.out⟩
       case measure => rw [HMU.out,HMU3.out]; omega
  ·have hnext : ∀ ty,(Instr.next (.pointer (some ⟨w.heap.size,0,none⟩)) true ty).run Tryz.prog wr = .ok (.tuple #[.bool false]) wr:=fun ty => Lib.run_next_end_at wr w.heap.size s pos ty hk hlt
   have HT : Hid (zar s 0 = true):=by unfold Hid; rw [HV.out,zf4 s pos hlt]
   cases hA with
   | out h =>
    have HW : Hid (zs4 s = acc):=h
    clear h
    go_wp2
    go_ret
    exact ⟨hnx,.inl ⟨HT.out,_,rfl,by rw [HW.out]; exact zbu hown (by omega)⟩⟩
   | gap h =>
    have HW : Hid (zs4 s = acc):=by unfold Hid; rw [h,zch s pos _ acc hlt]; rfl
    clear h
    go_wp2
    go_ret
    exact ⟨hnx,.inl ⟨HT.out,_,rfl,by rw [HW.out]; exact zbu hown (by omega)⟩⟩
   | word b hb h =>
    have hpe : pos = s.size:=by omega
    have HW : Hid (zs4 s = acc ++ [s.extract b s.size]):=by
     unfold Hid; rw [h,zch s pos _ acc hlt,zel _ _ (zfs s b pos hb hp),hpe]
    clear h hpe
    have hown1:=hown
    have hbs : b < s.size:=by omega
    have hszW : w.heap.size + 1 ≤ wr.heap.size:=by
     have:=(Array.getElem?_eq_some_iff.1 hk).1; omega
    go_wp2_with (at_builtin; refine wpList_append_own _ rfl _ _ 67 rfl (w.heap.size + 1) 9 i0 (.string ByteArray.empty) 1 16 Tryz.under67 hi hz0 hz1 hz2 rfl (by decide) _ _ _ rfl (hown1.alloc _) ⟨wr.heap.size,0,none⟩ 1 1 [.string (s.extract b s.size)] rfl rfl (cell_one_new _ _ _) (zcv _) (by unfold maxLen; omega) (by omega) (by simp; omega) ?_)
    intro v' w3 hown' hgrow _
    have hb3 : Below w.heap.size w w3:=(hnx.alloc hnx.size _).grown hgrow (by simp; omega) (fun j hj => by have:=(hown.lt j hj).1; omega)
    clear hgrow
    go_wp2
    go_ret
    exact ⟨hb3,.inl ⟨HT.out,_,rfl,by rw [HW.out]; exact zbu (by simpa using hown') (by omega)⟩⟩
def zaE (k : UInt8) : Int:=if k = 82 then 0 else if k = 75 then 1 else 2
def zaW (w : World) (sh : List UInt8) : Ending → World → Prop:=fun e w' =>
 (sh = [63] ∧ e = .returned (.tuple #[.slice none 0 0,.bool false]) ∧ w = w') ∨ (sh = [] ∧ e = .returned (.tuple #[.slice none 0 0,.bool true]) ∧ w = w') ∨
 (¬ sh = [63] ∧ ¬ sh = [] ∧ e = .returned (.tuple #[.slice (some ⟨w.heap.size,0,none⟩) sh.length sh.length,.bool true]) ∧ w' = w.alloc (.cells (sh.map (fun k => Value.int .i64 (zaE k))).toArray 225))
theorem zoP (w : World) : Calls Tryz.prog 149 #[.string ⟨#[115,101,116]⟩] w (zaW w [82,75]):=by
 go_enter Tryz.func149,Tryz.ntmps149
 go_wp2
 go_ret2
 exact .inr (.inr ⟨by decide,by decide,rfl,rfl⟩)
theorem zoQ (w : World) : Calls Tryz.prog 149 #[.string ⟨#[105,110,99]⟩] w (zaW w [82,75]):=by
 go_enter Tryz.func149,Tryz.ntmps149
 go_wp2
 go_ret2
 exact .inr (.inr ⟨by decide,by decide,rfl,rfl⟩)
theorem zoR (w : World) : Calls Tryz.prog 149 #[.string ⟨#[109,111,118]⟩] w (zaW w [82,82]):=by
 go_enter Tryz.func149,Tryz.ntmps149
 go_wp2
 go_ret2
 exact .inr (.inr ⟨by decide,by decide,rfl,rfl⟩)
theorem zmN (w : World) : Calls Tryz.prog 149 #[.string ⟨#[108,111,97,100]⟩] w (zaW w [82,82]):=by
 go_enter Tryz.func149,Tryz.ntmps149
 go_wp2
 go_ret2
 exact .inr (.inr ⟨by decide,by decide,rfl,rfl⟩)
theorem zlm (w : World) : Calls Tryz.prog 149 #[.string ⟨#[115,116,111,114,101]⟩] w (zaW w [82,82]):=by
 go_enter Tryz.func149,Tryz.ntmps149
 go_wp2
 go_ret2
 exact .inr (.inr ⟨by decide,by decide,rfl,rfl⟩)
theorem zoS (w : World) : Calls Tryz.prog 149 #[.string ⟨#[97,100,100]⟩] w (zaW w [82,82,82]):=by
 go_enter Tryz.func149,Tryz.ntmps149
 go_wp2
 go_ret2
 exact .inr (.inr ⟨by decide,by decide,rfl,rfl⟩)
theorem zoT (w : World) : Calls Tryz.prog 149 #[.string ⟨#[115,117,98]⟩] w (zaW w [82,82,82]):=by
 go_enter Tryz.func149,Tryz.ntmps149
 go_wp2
 go_ret2
 exact .inr (.inr ⟨by decide,by decide,rfl,rfl⟩)
theorem zoU (w : World) : Calls Tryz.prog 149 #[.string ⟨#[109,117,108]⟩] w (zaW w [82,82,82]):=by
 go_enter Tryz.func149,Tryz.ntmps149
 go_wp2
 go_ret2
 exact .inr (.inr ⟨by decide,by decide,rfl,rfl⟩)
theorem zmO (w : World) : Calls Tryz.prog 149 #[.string ⟨#[114,101,97,100]⟩] w (zaW w [82]):=by
 go_enter Tryz.func149,Tryz.ntmps149
 go_wp2
 go_ret2
 exact .inr (.inr ⟨by decide,by decide,rfl,rfl⟩)
theorem zln (w : World) : Calls Tryz.prog 149 #[.string ⟨#[119,114,105,116,101]⟩] w (zaW w [82]):=by
 go_enter Tryz.func149,Tryz.ntmps149
 go_wp2
 go_ret2
 exact .inr (.inr ⟨by decide,by decide,rfl,rfl⟩)
theorem zmP (w : World) : Calls Tryz.prog 149 #[.string ⟨#[106,117,109,112]⟩] w (zaW w [78]):=by
 go_enter Tryz.func149,Tryz.ntmps149
 go_wp2
 go_ret2
 exact .inr (.inr ⟨by decide,by decide,rfl,rfl⟩)
theorem zmQ (w : World) : Calls Tryz.prog 149 #[.string ⟨#[99,97,108,108]⟩] w (zaW w [78]):=by
 go_enter Tryz.func149,Tryz.ntmps149
 go_wp2
 go_ret2
 exact .inr (.inr ⟨by decide,by decide,rfl,rfl⟩)
theorem zmR (w : World) : Calls Tryz.prog 149 #[.string ⟨#[108,101,115,115]⟩] w (zaW w [82,82,78]):=by
 go_enter Tryz.func149,Tryz.ntmps149
 go_wp2
 go_ret2
 exact .inr (.inr ⟨by decide,by decide,rfl,rfl⟩)
theorem zmS (w : World) : Calls Tryz.prog 149 #[.string ⟨#[115,97,109,101]⟩] w (zaW w [82,82,78]):=by
 go_enter Tryz.func149,Tryz.ntmps149
 go_wp2
 go_ret2
 exact .inr (.inr ⟨by decide,by decide,rfl,rfl⟩)
theorem zmT (w : World) : Calls Tryz.prog 149 #[.string ⟨#[98,97,99,107]⟩] w (zaW w []):=by
 go_enter Tryz.func149,Tryz.ntmps149
 go_wp2
 go_ret2
 exact .inr (.inl ⟨rfl,rfl,rfl⟩)
theorem zmU (w : World) : Calls Tryz.prog 149 #[.string ⟨#[115,116,111,112]⟩] w (zaW w []):=by
 go_enter Tryz.func149,Tryz.ntmps149
 go_wp2
 go_ret2
 exact .inr (.inl ⟨rfl,rfl,rfl⟩)
theorem zmV (s : ByteArray) (w : World) (h0 : (s.toList == [115,101,116]) = false) (h1 : (s.toList == [105,110,99]) = false) (h2 : (s.toList == [109,111,118]) = false) (h3 : (s.toList == [108,111,97,100]) = false) (h4 : (s.toList == [115,116,111,114,101]) = false) (h5 : (s.toList == [97,100,100]) = false) (h6 : (s.toList == [115,117,98]) = false) (h7 : (s.toList == [109,117,108]) = false) (h8 : (s.toList == [114,101,97,100]) = false) (h9 : (s.toList == [119,114,105,116,101]) = false) (h10 : (s.toList == [106,117,109,112]) = false) (h11 : (s.toList == [99,97,108,108]) = false) (h12 : (s.toList == [108,101,115,115]) = false) (h13 : (s.toList == [115,97,109,101]) = false) (h14 : (s.toList == [98,97,99,107]) = false) (h15 : (s.toList == [115,116,111,112]) = false) :
  Calls Tryz.prog 149 #[.string s] w (zaW w [63]):=by
 go_enter Tryz.func149,Tryz.ntmps149
 go_wp2
 go_ret2
 exact .inl ⟨rfl,rfl,rfl⟩
theorem zkt (s : ByteArray) (h0 : (s.toList == [115,101,116]) = false) (h1 : (s.toList == [105,110,99]) = false) (h2 : (s.toList == [109,111,118]) = false) (h3 : (s.toList == [108,111,97,100]) = false) (h4 : (s.toList == [115,116,111,114,101]) = false) (h5 : (s.toList == [97,100,100]) = false) (h6 : (s.toList == [115,117,98]) = false) (h7 : (s.toList == [109,117,108]) = false) (h8 : (s.toList == [114,101,97,100]) = false) (h9 : (s.toList == [119,114,105,116,101]) = false) (h10 : (s.toList == [106,117,109,112]) = false) (h11 : (s.toList == [99,97,108,108]) = false) (h12 : (s.toList == [108,101,115,115]) = false) (h13 : (s.toList == [115,97,109,101]) = false) (h14 : (s.toList == [98,97,99,107]) = false) (h15 : (s.toList == [115,116,111,112]) = false) : zaa s = [63]:=by
 simp only [zaa,isW,h0,h1,h2,h3,h4,h5,h6,h7,h8,h9,h10,h11,h12,h13,h14,h15]
 simp
theorem zfM : zaa ⟨#[115,101,116]⟩ = [82,75]:=by kernel_rfl
theorem zfN : zaa ⟨#[105,110,99]⟩ = [82,75]:=by kernel_rfl
theorem zfO : zaa ⟨#[109,111,118]⟩ = [82,82]:=by kernel_rfl
theorem zfb : zaa ⟨#[108,111,97,100]⟩ = [82,82]:=by kernel_rfl
theorem zem : zaa ⟨#[115,116,111,114,101]⟩ = [82,82]:=by kernel_rfl
theorem zfP : zaa ⟨#[97,100,100]⟩ = [82,82,82]:=by kernel_rfl
theorem zfQ : zaa ⟨#[115,117,98]⟩ = [82,82,82]:=by kernel_rfl
theorem zfR : zaa ⟨#[109,117,108]⟩ = [82,82,82]:=by kernel_rfl
theorem zfc : zaa ⟨#[114,101,97,100]⟩ = [82]:=by kernel_rfl
theorem zen : zaa ⟨#[119,114,105,116,101]⟩ = [82]:=by kernel_rfl
theorem zfd : zaa ⟨#[106,117,109,112]⟩ = [78]:=by kernel_rfl
theorem zfe : zaa ⟨#[99,97,108,108]⟩ = [78]:=by kernel_rfl
theorem zff : zaa ⟨#[108,101,115,115]⟩ = [82,82,78]:=by kernel_rfl
theorem zfg : zaa ⟨#[115,97,109,101]⟩ = [82,82,78]:=by kernel_rfl
theorem zfh : zaa ⟨#[98,97,99,107]⟩ = []:=by kernel_rfl
theorem zfi : zaa ⟨#[115,116,111,112]⟩ = []:=by kernel_rfl
theorem zoV (s : ByteArray) (w : World) : Calls Tryz.prog 149 #[.string s] w (zaW w (zaa s)):=by
 cases h0 : (s.toList == [115,101,116]) with
 | true => rw [zax s _ h0,zfM]; exact zoP w
 | false =>
 cases h1 : (s.toList == [105,110,99]) with
 | true => rw [zax s _ h1,zfN]; exact zoQ w
 | false =>
 cases h2 : (s.toList == [109,111,118]) with
 | true => rw [zax s _ h2,zfO]; exact zoR w
 | false =>
 cases h3 : (s.toList == [108,111,97,100]) with
 | true => rw [zax s _ h3,zfb]; exact zmN w
 | false =>
 cases h4 : (s.toList == [115,116,111,114,101]) with
 | true => rw [zax s _ h4,zem]; exact zlm w
 | false =>
 cases h5 : (s.toList == [97,100,100]) with
 | true => rw [zax s _ h5,zfP]; exact zoS w
 | false =>
 cases h6 : (s.toList == [115,117,98]) with
 | true => rw [zax s _ h6,zfQ]; exact zoT w
 | false =>
 cases h7 : (s.toList == [109,117,108]) with
 | true => rw [zax s _ h7,zfR]; exact zoU w
 | false =>
 cases h8 : (s.toList == [114,101,97,100]) with
 | true => rw [zax s _ h8,zfc]; exact zmO w
 | false =>
 cases h9 : (s.toList == [119,114,105,116,101]) with
 | true => rw [zax s _ h9,zen]; exact zln w
 | false =>
 cases h10 : (s.toList == [106,117,109,112]) with
 | true => rw [zax s _ h10,zfd]; exact zmP w
 | false =>
 cases h11 : (s.toList == [99,97,108,108]) with
 | true => rw [zax s _ h11,zfe]; exact zmQ w
 | false =>
 cases h12 : (s.toList == [108,101,115,115]) with
 | true => rw [zax s _ h12,zff]; exact zmR w
 | false =>
 cases h13 : (s.toList == [115,97,109,101]) with
 | true => rw [zax s _ h13,zfg]; exact zmS w
 | false =>
 cases h14 : (s.toList == [98,97,99,107]) with
 | true => rw [zax s _ h14,zfh]; exact zmT w
 | false =>
 cases h15 : (s.toList == [115,116,111,112]) with
 | true => rw [zax s _ h15,zfi]; exact zmU w
 | false =>
 rw [zkt s h0 h1 h2 h3 h4 h5 h6 h7 h8 h9 h10 h11 h12 h13 h14 h15]
 exact zmV s w h0 h1 h2 h3 h4 h5 h6 h7 h8 h9 h10 h11 h12 h13 h14 h15
structure Back8 (W : World) (b : Nat) : Prop where
 f0 : ∀ x0,(W.setCell ⟨b,0,none⟩ x0).cell? ⟨b,0,none⟩ = some x0
 f1 : ∀ x0 x1,((W.setCell ⟨b,0,none⟩ x0).setCell ⟨b,1,none⟩ x1).cell? ⟨b,1,none⟩ = some x1
 f2 : ∀ x0 x1 x2,(((W.setCell ⟨b,0,none⟩ x0).setCell ⟨b,1,none⟩ x1).setCell ⟨b,2,none⟩ x2).cell? ⟨b,2,none⟩ = some x2
 f3 : ∀ x0 x1 x2 x3,((((W.setCell ⟨b,0,none⟩ x0).setCell ⟨b,1,none⟩ x1).setCell ⟨b,2,none⟩ x2).setCell ⟨b,3,none⟩ x3).cell? ⟨b,3,none⟩ = some x3
 f4 : ∀ x0 x1 x2 x3 x4,(((((W.setCell ⟨b,0,none⟩ x0).setCell ⟨b,1,none⟩ x1).setCell ⟨b,2,none⟩ x2).setCell ⟨b,3,none⟩ x3).setCell ⟨b,4,none⟩ x4).cell? ⟨b,4,none⟩ = some x4
 f5 : ∀ x0 x1 x2 x3 x4 x5,((((((W.setCell ⟨b,0,none⟩ x0).setCell ⟨b,1,none⟩ x1).setCell ⟨b,2,none⟩ x2).setCell ⟨b,3,none⟩ x3).setCell ⟨b,4,none⟩ x4).setCell ⟨b,5,none⟩ x5).cell? ⟨b,5,none⟩ = some x5
 f6 : ∀ x0 x1 x2 x3 x4 x5 x6,(((((((W.setCell ⟨b,0,none⟩ x0).setCell ⟨b,1,none⟩ x1).setCell ⟨b,2,none⟩ x2).setCell ⟨b,3,none⟩ x3).setCell ⟨b,4,none⟩ x4).setCell ⟨b,5,none⟩ x5).setCell ⟨b,6,none⟩ x6).cell? ⟨b,6,none⟩ = some x6
 f7 : ∀ x0 x1 x2 x3 x4 x5 x6 x7,((((((((W.setCell ⟨b,0,none⟩ x0).setCell ⟨b,1,none⟩ x1).setCell ⟨b,2,none⟩ x2).setCell ⟨b,3,none⟩ x3).setCell ⟨b,4,none⟩ x4).setCell ⟨b,5,none⟩ x5).setCell ⟨b,6,none⟩ x6).setCell ⟨b,7,none⟩ x7).cell? ⟨b,7,none⟩ = some x7
theorem zlo {W : World} {b : Nat} (h : ∀ k,k < 8 → ∃ x,W.cell? ⟨b,k,none⟩ = some x) : Back8 W b:=by
 constructor
 ·intro x0
  obtain ⟨y,hy⟩:=h 0 (by omega)
  refine World.cell?_setCell_same (u:=y) _ _ _ ?_
  exact hy
 ·intro x0 x1
  obtain ⟨y,hy⟩:=h 1 (by omega)
  refine World.cell?_setCell_same (u:=y) _ _ _ ?_
  rw [World.cell?_setCell_other]
  ·exact hy
  all_goals simp
 ·intro x0 x1 x2
  obtain ⟨y,hy⟩:=h 2 (by omega)
  refine World.cell?_setCell_same (u:=y) _ _ _ ?_
  rw [World.cell?_setCell_other]
  rw [World.cell?_setCell_other]
  ·exact hy
  all_goals simp
 ·intro x0 x1 x2 x3
  obtain ⟨y,hy⟩:=h 3 (by omega)
  refine World.cell?_setCell_same (u:=y) _ _ _ ?_
  rw [World.cell?_setCell_other]
  rw [World.cell?_setCell_other]
  rw [World.cell?_setCell_other]
  ·exact hy
  all_goals simp
 ·intro x0 x1 x2 x3 x4
  obtain ⟨y,hy⟩:=h 4 (by omega)
  refine World.cell?_setCell_same (u:=y) _ _ _ ?_
  rw [World.cell?_setCell_other]
  rw [World.cell?_setCell_other]
  rw [World.cell?_setCell_other]
  rw [World.cell?_setCell_other]
  ·exact hy
  all_goals simp
 ·intro x0 x1 x2 x3 x4 x5
  obtain ⟨y,hy⟩:=h 5 (by omega)
  refine World.cell?_setCell_same (u:=y) _ _ _ ?_
  rw [World.cell?_setCell_other]
  rw [World.cell?_setCell_other]
  rw [World.cell?_setCell_other]
  rw [World.cell?_setCell_other]
  rw [World.cell?_setCell_other]
  ·exact hy
  all_goals simp
 ·intro x0 x1 x2 x3 x4 x5 x6
  obtain ⟨y,hy⟩:=h 6 (by omega)
  refine World.cell?_setCell_same (u:=y) _ _ _ ?_
  rw [World.cell?_setCell_other]
  rw [World.cell?_setCell_other]
  rw [World.cell?_setCell_other]
  rw [World.cell?_setCell_other]
  rw [World.cell?_setCell_other]
  rw [World.cell?_setCell_other]
  ·exact hy
  all_goals simp
 ·intro x0 x1 x2 x3 x4 x5 x6 x7
  obtain ⟨y,hy⟩:=h 7 (by omega)
  refine World.cell?_setCell_same (u:=y) _ _ _ ?_
  rw [World.cell?_setCell_other]
  rw [World.cell?_setCell_other]
  rw [World.cell?_setCell_other]
  rw [World.cell?_setCell_other]
  rw [World.cell?_setCell_other]
  rw [World.cell?_setCell_other]
  rw [World.cell?_setCell_other]
  ·exact hy
  all_goals simp
theorem new8 {w w1 : World} {c : Array Value} {ty : TypeId} (hc : c.size = 8) (hb : Below (w.alloc (.cells c ty)).heap.size (w.alloc (.cells c ty)) w1) : ∀ k,k < 8 → ∃ x,w1.cell? ⟨w.heap.size,k,none⟩ = some x:=by
 intro k hk
 rw [hb.cell (p:=⟨w.heap.size,k,none⟩) (by simp)]
 exact ⟨c[k]'(by omega),(World.cell?_alloc_new (w:=w) c ty k).trans (Array.getElem?_eq_getElem (by omega))⟩
theorem zgC {B b : Nat} {a w : World} (h : Below B a w) (hb : B ≤ b) (x0 x1 x2 x3 x4 x5 x6 x7 : Value) : Below B a ((((((((w.setCell ⟨b,0,none⟩ x0).setCell ⟨b,1,none⟩ x1).setCell ⟨b,2,none⟩ x2).setCell ⟨b,3,none⟩ x3).setCell ⟨b,4,none⟩ x4).setCell ⟨b,5,none⟩ x5).setCell ⟨b,6,none⟩ x6).setCell ⟨b,7,none⟩ x7) :=
 (((((((h.setCell hb _).setCell hb _).setCell hb _).setCell hb _).setCell hb _).setCell hb _).setCell hb _).setCell hb _
abbrev stm (sort line : Int) (word : ByteArray) (a b c n : Int) (nm : ByteArray) : Value:=.agg #[.int .i64 sort,.int .i64 line,.string word,.int .i64 a,.int .i64 b,.int .i64 c,.int .i64 n,.string nm]
def WordsIn (w : World) (g : Nat) (l : List ByteArray) : Prop:=∀ j (hj : j < l.length),w.cell? ⟨g,j,none⟩ = some (.string l[j])
theorem zlp (w : World) (g cap : Nat) (l : List ByteArray) (line : Int) (hl : WordsIn w g l) (hsz : ∀ x ∈ l,x.size ≤ 1048576) (hn : l.length ≤ 1048577) (h : ¬ (l.length = 2 ∧ zau (l.getLast?.getD ByteArray.empty) = true)) :
  Calls Tryz.prog 127 #[.slice (some ⟨g,0,none⟩) l.length cap,.int .i64 line] w fun e w' => e = zap 1 line ∧ Below w.heap.size w w':=by
 by_cases h2 : l.length = 2
 ·match l,h2 with
  | [x,y],_ =>
   have hy:=hsz y (by simp)
   have hnm : zau y = false:=by simpa using h
   have hc1:=hl 1 (by simp)
   simp only [List.getElem_cons_succ,List.getElem_cons_zero] at hc1
   have hlt : g < w.heap.size:=by
    have:=World.block_lt_of_cell? w _ hc1; simpa using this
   go_enter Tryz.func127,Tryz.ntmps127
   go_wp2_with (first | (go_at_call 147; refine (zcT y _ hy).mono ?_; rintro e w1 ⟨rfl,hb⟩) | (go_at_call 79; refine (zaj _ _ _).mono ?_; rintro e wx ⟨rfl,hww⟩; have h2:=hww.symm; subst h2))
   exact ⟨rfl,rfl,((Below.refl _ _).alloc (Nat.le_refl _) _).trans (hb.mono (by simp))⟩
 ·have hne : ((l.length : Int) != 2) = true:=by simp; omega
  go_enter Tryz.func127,Tryz.ntmps127
  go_wp2_with (first | (go_at_call 79; refine (zaj _ _ _).mono ?_; rintro e wx ⟨rfl,hww⟩; have h2:=hww.symm; subst h2))
  exact ⟨rfl,rfl,(Below.refl _ _).alloc (Nat.le_refl _) _⟩
theorem zjr (w : World) (g cap : Nat) (x y : ByteArray) (line : Int) (hl : WordsIn w g [x,y]) (hy : y.size ≤ 1048576) (hnm : zau y = true) :
  Calls Tryz.prog 127 #[.slice (some ⟨g,0,none⟩) 2 cap,.int .i64 line] w fun e w' => e = .returned (stm 0 line ⟨#[]⟩ 0 0 0 0 y) ∧ Below w.heap.size w w':=by
 have hc1:=hl 1 (by simp)
 simp only [List.getElem_cons_succ,List.getElem_cons_zero] at hc1
 have hlt : g < w.heap.size:=by
  have:=World.block_lt_of_cell? w _ hc1; simpa using this
 have hne : ¬ w.heap.size = g:=by omega
 go_enter Tryz.func127,Tryz.ntmps127
 go_wp2_with (first | (go_at_call 147; refine (zcT y _ hy).mono ?_; rintro e w1 ⟨rfl,hb⟩; obtain ⟨hc,hf⟩:=zhk hb))
 obtain ⟨f0,f1,f2,f3,f4,f5,f6,f7⟩:=zlo (new8 rfl hb)
 refine bodyPost_ret (v:=stm 0 line ⟨#[]⟩ 0 0 0 0 y) (by simp [results,Tryz.results127,go_sem,f0,f1,f2,f3,f4,f5,f6,f7]) rfl ⟨rfl,?_⟩
 exact zgC (((Below.refl _ _).alloc (Nat.le_refl _) _).trans (hb.mono (by simp))) (Nat.le_refl _) _ _ _ _ _ _ _ _
theorem zlq (w : World) (ao : Option Addr) (n cap : Nat) (x : ByteArray) (line : Int) (hx : x.size ≤ 1048576) (hn : n ≤ 1048577) (h : ¬ (n = 1 ∧ zau x = true)) :
  Calls Tryz.prog 129 #[.string x,.slice ao n cap,.int .i64 line] w fun e w' => e = zap 1 line ∧ Below w.heap.size w w':=by
 by_cases h2 : n = 1
 ·have hnm : zau x = false:=by simpa [h2] using h
  subst h2
  go_enter Tryz.func129,Tryz.ntmps129
  go_wp2_with (first | (go_at_call 147; refine (zcT x _ hx).mono ?_; rintro e w1 ⟨rfl,hb⟩) | (go_at_call 79; refine (zaj _ _ _).mono ?_; rintro e wx ⟨rfl,hww⟩; have h2:=hww.symm; subst h2))
  exact ⟨rfl,rfl,((Below.refl _ _).alloc (Nat.le_refl _) _).trans (hb.mono (by simp))⟩
 ·have hne : ((n : Int) != 1) = true:=by simp; omega
  go_enter Tryz.func129,Tryz.ntmps129
  go_wp2_with (first | (go_at_call 79; refine (zaj _ _ _).mono ?_; rintro e wx ⟨rfl,hww⟩; have h2:=hww.symm; subst h2))
  exact ⟨rfl,rfl,(Below.refl _ _).alloc (Nat.le_refl _) _⟩
theorem zjs (w : World) (ao : Option Addr) (cap : Nat) (x : ByteArray) (line : Int) (hx : x.size ≤ 1048576) (hnm : zau x = true) :
  Calls Tryz.prog 129 #[.string x,.slice ao 1 cap,.int .i64 line] w fun e w' => e = .returned (stm 1 line ⟨#[]⟩ 0 0 0 0 x) ∧ Below w.heap.size w w':=by
 go_enter Tryz.func129,Tryz.ntmps129
 go_wp2_with (first | (go_at_call 147; refine (zcT x _ hx).mono ?_; rintro e w1 ⟨rfl,hb⟩; obtain ⟨hc,hf⟩:=zhk hb))
 obtain ⟨f0,f1,f2,f3,f4,f5,f6,f7⟩:=zlo (new8 rfl hb)
 refine bodyPost_ret (v:=stm 1 line ⟨#[]⟩ 0 0 0 0 x) (by simp [results,Tryz.results129,go_sem,f0,f1,f2,f3,f4,f5,f6,f7]) rfl ⟨rfl,?_⟩
 exact zgC (((Below.refl _ _).alloc (Nat.le_refl _) _).trans (hb.mono (by simp))) (Nat.le_refl _) _ _ _ _ _ _ _ _
structure StmAt (w : World) (q : Nat) (line : Int) (word nm : ByteArray) (r0 r1 r2 n : Int) : Prop where
 c0 : w.cell? ⟨q,0,none⟩ = some (.int .i64 2)
 c1 : w.cell? ⟨q,1,none⟩ = some (.int .i64 line)
 c2 : w.cell? ⟨q,2,none⟩ = some (.string word)
 c3 : w.cell? ⟨q,3,none⟩ = some (.int .i64 r0)
 c4 : w.cell? ⟨q,4,none⟩ = some (.int .i64 r1)
 c5 : w.cell? ⟨q,5,none⟩ = some (.int .i64 r2)
 c6 : w.cell? ⟨q,6,none⟩ = some (.int .i64 n)
 c7 : w.cell? ⟨q,7,none⟩ = some (.string nm)
 fz : ∀ o,w.frozen? ⟨q,o,none⟩ = false
end Go.Proofs.YtfpgjkbjbbgciaaGreatDoor
namespace Go.Proofs.YtfpgjkbjbbgciaaGreatDoor
open Go.RowKit Sp
section
variable {w w' : World} {q B : Nat} {line : Int} {word nm : ByteArray} {r0 r1 r2 n : Int}
theorem StmAt.below (h : StmAt w q line word nm r0 r1 r2 n) (hb : Below B w w') (hq : q < B) : StmAt w' q line word nm r0 r1 r2 n:=by
 obtain ⟨c,f⟩:=zhk hb
 exact ⟨(c q 0 hq).trans h.c0,(c q 1 hq).trans h.c1,(c q 2 hq).trans h.c2,(c q 3 hq).trans h.c3,(c q 4 hq).trans h.c4,(c q 5 hq).trans h.c5,(c q 6 hq).trans h.c6,(c q 7 hq).trans h.c7,fun o => (f q o hq).trans (h.fz o)⟩
theorem StmAt.drew (h : StmAt w q line word nm r0 r1 r2 n) : StmAt w.drew q line word nm r0 r1 r2 n:=⟨h.c0,h.c1,h.c2,h.c3,h.c4,h.c5,h.c6,h.c7,h.fz⟩
theorem StmAt.set3 (h : StmAt w q line word nm r0 r1 r2 n) (a : Int) : StmAt (w.setCell ⟨q,3,none⟩ (.int .i64 a)) q line word nm a r1 r2 n:=by
 refine ⟨?_,?_,?_,?_,?_,?_,?_,?_,fun o => ?_⟩
 ·rw [World.cell?_setCell_other]; exact h.c0; simp
 ·rw [World.cell?_setCell_other]; exact h.c1; simp
 ·rw [World.cell?_setCell_other]; exact h.c2; simp
 ·exact World.cell?_setCell_same w _ _ h.c3
 ·rw [World.cell?_setCell_other]; exact h.c4; simp
 ·rw [World.cell?_setCell_other]; exact h.c5; simp
 ·rw [World.cell?_setCell_other]; exact h.c6; simp
 ·rw [World.cell?_setCell_other]; exact h.c7; simp
 ·rw [World.frozen?_setCell]; exact h.fz o
theorem StmAt.set4 (h : StmAt w q line word nm r0 r1 r2 n) (a : Int) : StmAt (w.setCell ⟨q,4,none⟩ (.int .i64 a)) q line word nm r0 a r2 n:=by
 refine ⟨?_,?_,?_,?_,?_,?_,?_,?_,fun o => ?_⟩
 ·rw [World.cell?_setCell_other]; exact h.c0; simp
 ·rw [World.cell?_setCell_other]; exact h.c1; simp
 ·rw [World.cell?_setCell_other]; exact h.c2; simp
 ·rw [World.cell?_setCell_other]; exact h.c3; simp
 ·exact World.cell?_setCell_same w _ _ h.c4
 ·rw [World.cell?_setCell_other]; exact h.c5; simp
 ·rw [World.cell?_setCell_other]; exact h.c6; simp
 ·rw [World.cell?_setCell_other]; exact h.c7; simp
 ·rw [World.frozen?_setCell]; exact h.fz o
theorem StmAt.set5 (h : StmAt w q line word nm r0 r1 r2 n) (a : Int) : StmAt (w.setCell ⟨q,5,none⟩ (.int .i64 a)) q line word nm r0 r1 a n:=by
 refine ⟨?_,?_,?_,?_,?_,?_,?_,?_,fun o => ?_⟩
 ·rw [World.cell?_setCell_other]; exact h.c0; simp
 ·rw [World.cell?_setCell_other]; exact h.c1; simp
 ·rw [World.cell?_setCell_other]; exact h.c2; simp
 ·rw [World.cell?_setCell_other]; exact h.c3; simp
 ·rw [World.cell?_setCell_other]; exact h.c4; simp
 ·exact World.cell?_setCell_same w _ _ h.c5
 ·rw [World.cell?_setCell_other]; exact h.c6; simp
 ·rw [World.cell?_setCell_other]; exact h.c7; simp
 ·rw [World.frozen?_setCell]; exact h.fz o
theorem StmAt.set6 (h : StmAt w q line word nm r0 r1 r2 n) (a : Int) : StmAt (w.setCell ⟨q,6,none⟩ (.int .i64 a)) q line word nm r0 r1 r2 a:=by
 refine ⟨?_,?_,?_,?_,?_,?_,?_,?_,fun o => ?_⟩
 ·rw [World.cell?_setCell_other]; exact h.c0; simp
 ·rw [World.cell?_setCell_other]; exact h.c1; simp
 ·rw [World.cell?_setCell_other]; exact h.c2; simp
 ·rw [World.cell?_setCell_other]; exact h.c3; simp
 ·rw [World.cell?_setCell_other]; exact h.c4; simp
 ·rw [World.cell?_setCell_other]; exact h.c5; simp
 ·exact World.cell?_setCell_same w _ _ h.c6
 ·rw [World.cell?_setCell_other]; exact h.c7; simp
 ·rw [World.frozen?_setCell]; exact h.fz o
theorem StmAt.set7 (h : StmAt w q line word nm r0 r1 r2 n) (y : ByteArray) : StmAt (w.setCell ⟨q,7,none⟩ (.string y)) q line word y r0 r1 r2 n:=by
 refine ⟨?_,?_,?_,?_,?_,?_,?_,?_,fun o => ?_⟩
 ·rw [World.cell?_setCell_other]; exact h.c0; simp
 ·rw [World.cell?_setCell_other]; exact h.c1; simp
 ·rw [World.cell?_setCell_other]; exact h.c2; simp
 ·rw [World.cell?_setCell_other]; exact h.c3; simp
 ·rw [World.cell?_setCell_other]; exact h.c4; simp
 ·rw [World.cell?_setCell_other]; exact h.c5; simp
 ·rw [World.cell?_setCell_other]; exact h.c6; simp
 ·exact World.cell?_setCell_same w _ _ h.c7
 ·rw [World.frozen?_setCell]; exact h.fz o
theorem StmAt.lt (h : StmAt w q line word nm r0 r1 r2 n) : q < w.heap.size:=by have:=World.block_lt_of_cell? w _ h.c0; simpa using this
end
theorem zat {w w1 : World} {q o : Nat} {v : Value} (hb : Below w.heap.size w w1) : w.grownBy (w1.setCell ⟨q,o,none⟩ v) (some q) :=
 ⟨hb.os,hb.tape,hb.output,by have:=hb.size; simpa [World.setCell] using this,fun k hk hne => (Below.heap_setCell w1 _ _ k (fun e => hne (by rw [e]))).trans (hb.block k hk)⟩
theorem zeE {w w' : World} {r : Option Nat} (h : w.grownBy w' r) : w.grownBy w'.drew r:=⟨h.os,h.tape,h.output,h.size,h.block⟩
theorem zku (w : World) (hw : LibW w) (q : Nat) (place line : Int) (word nm x : ByteArray) (r0 r1 r2 n : Int) (hS : StmAt w q line word nm r0 r1 r2 n) (hx : x.size ≤ 1048576) :
  Calls Tryz.prog 150 #[.pointer (some ⟨q,0,none⟩),.int .i64 place,.int .i64 1,.string x] w fun e w' => e = .returned (.bool (zbj x).2) ∧ w.grownBy w' (some q) ∧ StmAt w' q line word nm r0 r1 r2 (zca x):=by
 have hq:=hS.lt
 have hc6:=hS.c6
 have hf6:=hS.fz 6
 go_enter Tryz.func150,Tryz.ntmps150
 go_wp2_with (first | (go_at_call 166; refine (zoN x _ hw hx).mono ?_; rintro e w1 ⟨rfl,hb⟩; obtain ⟨hc,hf⟩:=zhk hb))
 go_ret
 exact ⟨rfl,zat hb,(hS.below hb hq).set6 _⟩
theorem zhL (w : World) (q : Nat) (place line : Int) (word nm x : ByteArray) (r0 r1 r2 n : Int) (hS : StmAt w q line word nm r0 r1 r2 n) (hx : x.size ≤ 1048576) :
  Calls Tryz.prog 150 #[.pointer (some ⟨q,0,none⟩),.int .i64 place,.int .i64 2,.string x] w fun e w' => e = .returned (.bool (zau x)) ∧ w.grownBy w' (some q) ∧ StmAt w' q line word x r0 r1 r2 n:=by
 have hq:=hS.lt
 have hc7:=hS.c7
 have hf7:=hS.fz 7
 go_enter Tryz.func150,Tryz.ntmps150
 go_wp2_with (first | (go_at_call 147; refine (zcT x _ hx).mono ?_; rintro e w1 ⟨rfl,hb⟩; obtain ⟨hc,hf⟩:=zhk hb))
 go_ret
 exact ⟨rfl,zat hb,(hS.below hb hq).set7 _⟩
theorem zhM (w : World) (q : Nat) (line : Int) (word nm x : ByteArray) (r0 r1 r2 n : Int) (hS : StmAt w q line word nm r0 r1 r2 n) (hx : x.size ≤ 1048576) :
  Calls Tryz.prog 150 #[.pointer (some ⟨q,0,none⟩),.int .i64 0,.int .i64 0,.string x] w fun e w' => e = .returned (.bool (zd2 x)) ∧ w.grownBy w' (some q) ∧ StmAt w' q line word nm (zas x) r1 r2 n:=by
 have hq:=hS.lt
 have hc:=hS.c3
 have hf:=hS.fz 3
 go_enter Tryz.func150,Tryz.ntmps150
 go_wp2
 go_region_with (go_at_call 165; refine (zhi x _ (by unfold maxLen; omega)).mono ?_; rintro e wx ⟨rfl,hww⟩; have h2:=hww.symm; subst h2)
 all_goals go_wp2
 all_goals go_ret
 all_goals refine ⟨rfl,?_,?_⟩
 ·exact zeE (zat (Below.refl _ _))
 ·exact (hS.set3 _).drew
theorem zhN (w : World) (q : Nat) (line : Int) (word nm x : ByteArray) (r0 r1 r2 n : Int) (hS : StmAt w q line word nm r0 r1 r2 n) (hx : x.size ≤ 1048576) :
  Calls Tryz.prog 150 #[.pointer (some ⟨q,0,none⟩),.int .i64 1,.int .i64 0,.string x] w fun e w' => e = .returned (.bool (zd2 x)) ∧ w.grownBy w' (some q) ∧ StmAt w' q line word nm r0 (zas x) r2 n:=by
 have hq:=hS.lt
 have hc:=hS.c4
 have hf:=hS.fz 4
 go_enter Tryz.func150,Tryz.ntmps150
 go_wp2
 go_region_with (go_at_call 165; refine (zhi x _ (by unfold maxLen; omega)).mono ?_; rintro e wx ⟨rfl,hww⟩; have h2:=hww.symm; subst h2)
 all_goals go_wp2
 all_goals go_ret
 all_goals refine ⟨rfl,?_,?_⟩
 ·exact zeE (zat (Below.refl _ _))
 ·exact (hS.set4 _).drew
theorem zhO (w : World) (q : Nat) (line : Int) (word nm x : ByteArray) (r0 r1 r2 n : Int) (hS : StmAt w q line word nm r0 r1 r2 n) (hx : x.size ≤ 1048576) :
  Calls Tryz.prog 150 #[.pointer (some ⟨q,0,none⟩),.int .i64 2,.int .i64 0,.string x] w fun e w' => e = .returned (.bool (zd2 x)) ∧ w.grownBy w' (some q) ∧ StmAt w' q line word nm r0 r1 (zas x) n:=by
 have hq:=hS.lt
 have hc:=hS.c5
 have hf:=hS.fz 5
 go_enter Tryz.func150,Tryz.ntmps150
 go_wp2
 go_region_with (go_at_call 165; refine (zhi x _ (by unfold maxLen; omega)).mono ?_; rintro e wx ⟨rfl,hww⟩; have h2:=hww.symm; subst h2)
 all_goals go_wp2
 all_goals go_ret
 all_goals refine ⟨rfl,?_,?_⟩
 ·exact zeE (zat (Below.refl _ _))
 ·exact (hS.set5 _).drew
end Go.Proofs.YtfpgjkbjbbgciaaGreatDoor
