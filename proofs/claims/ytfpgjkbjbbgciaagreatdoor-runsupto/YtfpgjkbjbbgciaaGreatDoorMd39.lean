import Derived.Test.YtfpgjkbjbbgciaaGreatDoorMd36
import Derived.Test.YtfpgjkbjbbgciaaGreatDoorMd38
set_option maxRecDepth 100000
set_option maxHeartbeats 8000000
namespace Go.Proofs.YtfpgjkbjbbgciaaGreatDoor
open Go.RowKit Sp
theorem zq4{w:World}(a1 a2:Option Addr)(c1 c2:Nat)(xs ys:List Int)(h1:BhM w a1 c1 xs)(h2:BhM w a2 c2 ys):Calls Tryz.prog 176 #[.slice a1 xs.length c1,.slice a2 ys.length c2] w fun e w'=>e=.returned (.bool (decide (xs=ys)))∧Below w.heap.size w w':=by
 have l1:=h1.len
 have l2:=h2.len
 by_cases hl:xs.length=ys.length
 ·have t0:((xs.length:Int) != (ys.length:Int))=false:=by rw [hl];simp
  have HL:Hid (xs.length=ys.length):=hl
  clear hl
  go_enter Tryz.func176,Tryz.ntmps176
  go_wp2
  go_loopw [13] (fun ti wr=>∃ j:Nat,j≤xs.length∧ti=.int .i64 (j:Int)∧AgreeTo xs ys j∧Below w.heap.size w wr) (fun ti _=>xs.length-(intOf ti).toNat)
  case atStart=>exact⟨0,by omega,rfl,fun i hi=>absurd hi (by omega),Below.refl _ _⟩
  case round =>
   obtain⟨j,hj,rfl,hA,hb⟩:=hrel
   have hj0:(0:Int)≤(j:Int):=by omega
   by_cases hx:j<xs.length
   ·have hx1:(j:Int)<(xs.length:Int):=by omega
    have hy:j<ys.length:=by have:=HL.out;omega
    have hy1:(j:Int)<(ys.length:Int):=by omega
    obtain⟨g1,rfl⟩:=h1.addr (by omega)
    obtain⟨g2,rfl⟩:=h2.addr (by have:=HL.out;omega)
    have HF:∀ W,Below w.heap.size w W→W.cell? ⟨g1,j,none⟩=some (.int .i64 xs[j])∧W.cell? ⟨g2,j,none⟩=some (.int .i64 ys[j]):=fun W hW=>⟨((h1.below hW).cell g1 rfl).2 j xs[j] (List.getElem?_eq_getElem hx),((h2.below hW).cell g2 rfl).2 j ys[j] (List.getElem?_eq_getElem hy)⟩
    by_cases hc:xs[j]=ys[j]
    ·have hc2:(xs[j] != ys[j])=false:=by simpa using hc
     go_wp2
     refine zaf 8 (fun W=>Below w.heap.size w W) hb.drew (by kernel_rfl) (by kernel_rfl) ?_
     simp only [List.take,List.drop]
     repeat(refine zab rfl ?_ (fun W hW=>?_) ?_;rotate_left 1;· (obtain⟨f1,f2⟩:=HF W hW;go_simp;with_reducible rfl))
     refine wpQuiet_nil ?_
     intro W hW
     go_wp2
     go_roundw
     case rel=>exact⟨j+1,by omega,by go_num,hA.succ (by rw [List.getElem?_eq_getElem hx,List.getElem?_eq_getElem hy,hc]),hW⟩
     case measure=>simp [intOf];omega
    ·have hc2:(xs[j] != ys[j])=true:=by simpa using hc
     have e0:decide (xs=ys)=false:=by
      rw [decide_eq_false_iff_not]
      intro e
      subst e
      exact hc rfl
     go_wp2
     refine zaf 8 (fun W=>Below w.heap.size w W) hb.drew (by kernel_rfl) (by kernel_rfl) ?_
     simp only [List.take,List.drop]
     repeat(refine zab rfl ?_ (fun W hW=>?_) ?_;rotate_left 1;· (obtain⟨f1,f2⟩:=HF W hW;go_simp;with_reducible rfl))
     refine wpQuiet_nil ?_
     intro W hW
     go_wp2
     go_ret
     exact⟨by rw [e0];rfl,hW⟩
   ·have hx2:decide ((j:Int)<(xs.length:Int))=false:=by simpa using hx
    have e0:decide (xs=ys)=true:=by rw [decide_eq_true_iff];have:=HL.out;exact hA.all (by omega) (by omega)
    go_wp2
    go_ret
    exact⟨by rw [e0];rfl,hb⟩
 ·have t0:((xs.length:Int) != (ys.length:Int))=true:=by
   have:¬(xs.length:Int)=(ys.length:Int):=by omega
   simpa using this
  have e0:decide (xs=ys)=false:=by rw [decide_eq_false_iff_not];exact fun e=>hl (by rw [e])
  rw [e0]
  go_enter Tryz.func176,Tryz.ntmps176
  go_wp2
  go_ret
  exact⟨rfl,Below.refl _ _⟩
def covB(f g:Nat→Rg):Nat→Bool
 | 0=>true
 | n+1=>covB f g n&&(g n).within (f n)
theorem zq5{f g:Nat→Rg}{n j:Nat}(hj:j<n)(h:(g j).within (f j)=false):covB f g n=false:=by
 induction n with
 | zero=>omega
 | succ n ih =>
  unfold covB
  by_cases e:j=n
  ·subst e;rw [h,Bool.and_false]
  ·rw [ih (by omega),Bool.false_and]
theorem zlX{w:World}(g1 o1 c1 g2 o2 c2 n:Nat)(f g:Nat→Rg)(hn:n≤16)(h1:∀ r,r<n→w.cell? ⟨g1,o1+r*2,none⟩=some (.int .i64 (f r).lo)∧w.cell? ⟨g1,o1+r*2+1,none⟩=some (.int .i64 (f r).hi))(h2:∀ r,r<n→w.cell? ⟨g2,o2+r*2,none⟩=some (.int .i64 (g r).lo)∧w.cell? ⟨g2,o2+r*2+1,none⟩=some (.int .i64 (g r).hi))(l1:g1<w.heap.size)(l2:g2<w.heap.size):
  Calls Tryz.prog 177 #[.slice (some ⟨g1,o1,none⟩) n c1,.slice (some ⟨g2,o2,none⟩) n c2] w fun e w'=>e=.returned (.bool (covB f g n))∧Below w.heap.size w w':=by
 go_enter Tryz.func177,Tryz.ntmps177
 go_wp2
 go_loopw [9] (fun ti wr=>∃ j:Nat,j≤n∧ti=.int .i64 (j:Int)∧covB f g j=true∧Below w.heap.size w wr) (fun ti _=>n-(intOf ti).toNat)
 case atStart=>exact⟨0,by omega,rfl,rfl,Below.refl _ _⟩
 case round =>
  obtain⟨j,hj,rfl,hA,hb⟩:=hrel
  have hj0:(0:Int)≤(j:Int):=by omega
  by_cases hx:j<n
  ·have hx1:(j:Int)<(n:Int):=by omega
   have KC:∀ q i W,q<w.heap.size→Below w.heap.size w W→W.cell? ⟨q,i,none⟩=w.cell? ⟨q,i,none⟩:=fun q i W hq hW=>World.cell?_of_block (a:=⟨q,i,none⟩) (hW.block q hq)
   obtain⟨d0,d1⟩:=h2 j hx
   rw [←KC g2 _ wr l2 hb] at d0 d1
   obtain⟨A,hA2⟩:∃ A,wr.alloc (.cells #[.int .i64 (g j).lo,.int .i64 (g j).hi] 213)=A:=⟨_,rfl⟩
   have HL:∀ W,Below A.heap.size A W→Below w.heap.size w W:=fun W hW=>by subst hA2;exact hb.trans ((box1.trans (hW.mono (by simp))).mono hb.size)
   have HF:∀ W,Below A.heap.size A W→(W.cell? ⟨wr.heap.size,0,none⟩=some (.int .i64 (g j).lo)∧W.cell? ⟨wr.heap.size,1,none⟩=some (.int .i64 (g j).hi))∧(W.cell? ⟨g1,o1+j*2,none⟩=some (.int .i64 (f j).lo)∧W.cell? ⟨g1,o1+j*2+1,none⟩=some (.int .i64 (f j).hi)):=fun W hW =>
    ⟨by subst hA2;exact⟨za8 hW 0,za8 hW 1⟩,(KC _ _ W l1 (HL W hW)).trans (h1 j hx).1,(KC _ _ W l1 (HL W hW)).trans (h1 j hx).2⟩
   by_cases hc:(g j).within (f j)=true
   ·go_wp2
    refine zaf 6 (fun W=>Below A.heap.size A W) (Below.refl _ _).drew (by kernel_rfl) (by kernel_rfl) ?_
    simp only [List.take,List.drop]
    repeat(refine zab rfl ?_ (fun W hW=>?_) ?_;rotate_left 1;· (obtain⟨⟨f0,f1⟩,f2,f3⟩:=HF W hW;go_simp;with_reducible rfl))
    refine zaP rfl 182 #[rv (g j),rv (f j)] (.bool ((g j).within (f j))) (fun W hW=>?_) (fun W hW=>(zjy _ _ W).mono (fun e w' hh=>⟨hh.1,hW.trans (hh.2.mono hW.size)⟩)) ?_
    ·go_simp
    refine wpQuiet_nil ?_
    intro W hW
    have hW2:=HL W hW
    go_wp2
    go_roundw
    case rel=>exact⟨j+1,by omega,by go_num,by unfold covB;rw [hA,hc];rfl,hW2⟩
    case measure=>simp [intOf];omega
   ·have hc2:(g j).within (f j)=false:=by simpa using hc
    clear hc
    go_wp2
    refine zaf 6 (fun W=>Below A.heap.size A W) (Below.refl _ _).drew (by kernel_rfl) (by kernel_rfl) ?_
    simp only [List.take,List.drop]
    repeat(refine zab rfl ?_ (fun W hW=>?_) ?_;rotate_left 1;· (obtain⟨⟨f0,f1⟩,f2,f3⟩:=HF W hW;go_simp;with_reducible rfl))
    refine zaP rfl 182 #[rv (g j),rv (f j)] (.bool ((g j).within (f j))) (fun W hW=>?_) (fun W hW=>(zjy _ _ W).mono (fun e w' hh=>⟨hh.1,hW.trans (hh.2.mono hW.size)⟩)) ?_
    ·go_simp
    refine wpQuiet_nil ?_
    intro W hW
    have hW2:=HL W hW
    go_wp2
    go_ret
    exact⟨by rw [zq5 hx hc2];rfl,hW2⟩
  ·have hx2:decide ((j:Int)<(n:Int))=false:=by simpa using hx
   obtain rfl:j=n:=by omega
   go_wp2
   go_ret
   exact⟨by rw [hA];rfl,hb⟩
theorem zj8{w w2:World}{b:Nat}{bv:Value}{ks:List Kn}{e:Ending}{w':World}(hg:w.grownBy w2 (some b))(h:zcJ w2 b bv ks e w'):zcJ w b bv ks e w':=by
 obtain⟨ao,cap,ps,rfl,A⟩:=h
 refine⟨ao,cap,ps,rfl,⟨zag hg A.grown,fun i p hp=>?_,A.len,A.kn,A.nodup,fun p hp=>?_⟩⟩
 ·obtain⟨g,e,h1,h2⟩:=A.ptrs i p hp
  exact⟨g,e,Nat.le_trans hg.size h1,h2⟩
 ·rcases A.from' p hp with e|e
  ·exact .inl e
  ·exact .inr (Nat.le_trans hg.size e)
theorem zn6{w:World}{b:Nat}{bv:Value}{k:Kn}(h:KnM w b bv k)(r:Nat)(h0:0≤k.steps)(h1:k.steps≤100000)(n0:0≤k.next)(n1:k.next≤100000):
  Calls Tryz.prog 263 #[.agg #[.int .i64 (r:Int)],.pointer (some ⟨b,0,none⟩)] w (zaZ w b bv (k.goTo (k.next+1))):=by
 have hK:=h.alloc (.cells #[.int .i64 (r:Int)] 182)
 go_enter Tryz.func263,Tryz.ntmps263
 go_wp2_with(go_at_call 227;(with_reducible refine(zcq hK h0 h1 n0 n1).mono ?_);intro e w6 hw6;have hw7:=zdl (zaQ (b:=some b) box1) hw6;clear hw6;obtain⟨g,rfl,hg,hc,hk,hgr⟩:=hw7)
 go_ret
 exact⟨g,rfl,hg,hc,hk,hgr⟩
theorem zqN{w:World}{b:Nat}{bv:Value}{k:Kn}(h:KnM w b bv k)(z:Int)(h0:0≤k.steps)(h1:k.steps≤100000):
  Calls Tryz.prog 266 #[.agg #[.int .i64 z],.pointer (some ⟨b,0,none⟩)] w (zaZ w b bv (k.goTo z)):=by
 have hK:=h.alloc (.cells #[.int .i64 z] 185)
 go_enter Tryz.func266,Tryz.ntmps266
 go_wp2_with(go_at_call 229;(with_reducible refine(zfY hK z h0 h1).mono ?_);intro e w6 hw6;have hw7:=zdl (zaQ (b:=some b) box1) hw6;clear hw6;obtain⟨g,rfl,hg,hc,hk,hgr⟩:=hw7)
 go_ret
 exact⟨g,rfl,hg,hc,hk,hgr⟩
theorem zqO{w:World}(p:Value):Calls Tryz.prog 289 #[.agg #[],p] w fun e w'=>e=.returned (.slice none 0 0)∧Below w.heap.size w w':=by
 go_enter Tryz.func289,Tryz.ntmps289
 go_wp2
 go_ret
 exact⟨rfl,box1⟩
theorem zqP{w:World}{b cap:Nat}{ao:Option Addr}{k:Kn}(h:KnM w b (.slice ao k.behind.length cap) k)(B:BhM w ao cap k.behind)(z:Int)(hlen:k.behind.length<15)(h0:0≤k.steps)(h1:k.steps≤100000)(n0:0≤k.next)(n1:k.next≤100000):
  Calls Tryz.prog 280 #[.agg #[.int .i64 z],.pointer (some ⟨b,0,none⟩)] w (zoM w b k z):=by
 have hK:=h.alloc (.cells #[.int .i64 z] 190)
 have hB:=B.below (w':=w.alloc (.cells #[.int .i64 z] 190)) box1
 go_enter Tryz.func280,Tryz.ntmps280
 go_wp2_with(go_at_call 282;(with_reducible refine(zts hK hB z hlen h0 h1 n0 n1).mono ?_);intro e w6 hw6;obtain⟨g4,c4,hw7,hB7,hg7⟩:=hw6;have hw8:=zdl (zaQ (b:=some b) box1) hw7;clear hw7;obtain⟨g,rfl,hg,hc,hk,hgr⟩:=hw8)
 go_ret
 exact⟨g4,c4,⟨g,rfl,hg,hc,hk,hgr⟩,hB7,Nat.le_trans (by simp) hg7⟩
theorem ziu{w:World}{b cap:Nat}{ao:Option Addr}{k:Kn}(h:KnM w b (.slice ao k.behind.length cap) k)(z:Int)(hlen:k.behind.length=15):
  Calls Tryz.prog 280 #[.agg #[.int .i64 z],.pointer (some ⟨b,0,none⟩)] w fun e w'=>e=zaj 8 0∧Below w.heap.size w w':=by
 have hK:=h.alloc (.cells #[.int .i64 z] 190)
 go_enter Tryz.func280,Tryz.ntmps280
 go_wp2_with(go_at_call 282;(with_reducible refine(zqL hK z hlen).mono ?_);rintro e wx ⟨rfl,hww⟩;have hw2:=hww.symm;subst hw2)
 exact⟨rfl,rfl,box1⟩
theorem ziv{w:World}{b cap:Nat}{ao:Option Addr}{k:Kn}(h:KnM w b (.slice ao 0 cap) k):Calls Tryz.prog 285 #[.agg #[],.pointer (some ⟨b,0,none⟩)] w fun e w'=>e=.returned (.slice none 0 0)∧Below w.heap.size w w':=by
 have hK:=h.alloc (.cells #[] 192)
 go_enter Tryz.func285,Tryz.ntmps285
 go_wp2_with(go_at_call 287;(with_reducible refine(ztr hK).mono ?_);rintro e wx ⟨rfl,hww⟩;have hw2:=hww.symm;subst hw2)
 go_ret
 exact⟨rfl,box1⟩
theorem ziw{w:World}{b cap:Nat}{ao:Option Addr}{k:Kn}{x:Int}{l:List Int}(h:KnM w b (.slice ao k.behind.length cap) k)(B:BhM w ao cap k.behind)(hk:k.behind=l++[x])(ap:∀ a,ao=some a→¬a.block=b)(h0:0≤k.steps)(h1:k.steps≤100000):
  Calls Tryz.prog 285 #[.agg #[],.pointer (some ⟨b,0,none⟩)] w fun e w'=>zaZ w b (.slice ao l.length cap) ({ k with behind:=l }.goTo x) e w'∧BhM w' ao cap l:=by
 have hK:=h.alloc (.cells #[] 192)
 have hB:=B.below (w':=w.alloc (.cells #[] 192)) box1
 go_enter Tryz.func285,Tryz.ntmps285
 go_wp2_with(go_at_call 287;(with_reducible refine(zqM hK hB hk ap h0 h1).mono ?_);intro e w6 hw6;obtain⟨hw7,hB7⟩:=hw6;have hw8:=zdl (zaQ (b:=some b) box1) hw7;clear hw7;obtain⟨g,rfl,hg,hc,hk,hgr⟩:=hw8)
 go_ret
 exact⟨⟨g,rfl,hg,hc,hk,hgr⟩,hB7⟩
theorem zhm{w wx:World}{o:Obj}{cs:Array Value}{t:TypeId}(hbx:Below ((w.alloc o).alloc (.cells cs t)).heap.size ((w.alloc o).alloc (.cells cs t)) wx)(j:Nat):wx.frozen? ⟨w.heap.size+1,j,none⟩=false:=by
 have e:=World.frozen?_of_block (a:=⟨w.heap.size+1,j,none⟩) (hbx.block (w.heap.size+1) (by simp))
 rw [e]
 exact World.frozen?_alloc_at _ _ _ _ (by simp)
theorem zj7{w wx:World}{o:Obj}{cs:Array Value}{t:TypeId}(hbx:Below ((w.alloc (.cells cs t)).alloc o).heap.size ((w.alloc (.cells cs t)).alloc o) wx)(j:Nat):wx.cell? ⟨w.heap.size,j,none⟩=cs[j]? :=
 (World.cell?_of_block (a:=⟨w.heap.size,j,none⟩) ((hbx.block w.heap.size (by simp;omega)).trans (Below.heap_alloc _ _ _ (by simp)))).trans (World.cell?_alloc_new _ _ _ j)
def subR(k:Kn)(s t:Nat):Rg:=if s=t then only 0 else(k.regs s).minus (k.regs t)
theorem ztC{w:World}{b:Nat}{k:Kn}(r s:Nat):Calls Tryz.prog 241 #[.agg #[.int .i64 (r:Int),.int .i64 (s:Int),.int .i64 (s:Int)],.pointer (some ⟨b,0,none⟩)] w fun e w'=>e=.returned (rv (subR k s s))∧Below w.heap.size w w':=by
 have e0:subR k s s=only 0:=if_pos rfl
 rw [e0]
 go_enter Tryz.func241,Tryz.ntmps241
 go_wp2_with(go_at_call 226;(with_reducible refine(zhl 0 _).mono ?_);rintro e wx ⟨rfl,hbx⟩;have c0:wx.cell? ⟨w.heap.size+1,0,none⟩=some (.int .i64 0):=zd7 hbx 0;have c1:wx.cell? ⟨w.heap.size+1,1,none⟩=some (.int .i64 0):=zd7 hbx 1;have z0:=zhm hbx 0;have z1:=zhm hbx 1)
 exact zbD (r:=only 0) Tryz.results241 rfl rfl (zau c0 c1).1 (zau c0 c1).2 ⟨rfl,zaz (box2.trans (hbx.mono (by simp;omega))) (by omega)⟩
theorem zqG{w:World}{b:Nat}{bv:Value}{k:Kn}(h:KnM w b bv k)(r s:Nat)(hs:s<8)(t:Nat)(ht:t<8)(hne:¬s=t):Calls Tryz.prog 241 #[.agg #[.int .i64 (r:Int),.int .i64 (s:Int),.int .i64 (t:Int)],.pointer (some ⟨b,0,none⟩)] w fun e w'=>e=.returned (rv (subR k s t))∧Below w.heap.size w w':=by
 have e0:subR k s t=(k.regs s).minus (k.regs t):=if_neg hne
 rw [e0]
 have hlt:=h.lt
 have s0:(0:Int)≤(s:Int):=by omega
 have s1:(s:Int)<8:=by omega
 have u0:(0:Int)≤(t:Int):=by omega
 have u1:(t:Int)<8:=by omega
 have t0:((s:Int) == (t:Int))=false:=by simpa using (by omega:¬(s:Int)=(t:Int))
 obtain⟨A,hA⟩:∃ A,(w.alloc (.cells #[.int .i64 (r:Int),.int .i64 (s:Int),.int .i64 (t:Int)] 172)).alloc (.cells #[.int .i64 0,.int .i64 0] 213)=A:=⟨_,rfl⟩
 have HB:∀ W,Below A.heap.size A W→KnM W b bv k:=fun W hW=>by subst hA;exact((h.alloc _).alloc _).below hW (by simp;omega)
 have hC:∀ W,Below A.heap.size A W→W.cell? ⟨w.heap.size+1,0,none⟩=some (.int .i64 0)∧W.cell? ⟨w.heap.size+1,1,none⟩=some (.int .i64 0)∧W.frozen? ⟨w.heap.size+1,0,none⟩=false∧W.frozen? ⟨w.heap.size+1,1,none⟩=false:=fun W hW=>by subst hA;exact⟨zd7 hW 0,zd7 hW 1,zhm hW 0,zhm hW 1⟩
 have hL:∀ W,Below A.heap.size A W→Below w.heap.size w W:=fun W hW=>by subst hA;exact box2.trans (hW.mono (by simp;omega))
 have HF:∀ W,Below A.heap.size A W→(W.cell? ⟨w.heap.size,1,none⟩=some (.int .i64 (s:Int))∧W.cell? ⟨w.heap.size,2,none⟩=some (.int .i64 (t:Int)))∧(W.cell? ⟨b,s*2,none⟩=some (.int .i64 (k.regs s).lo)∧W.cell? ⟨b,s*2+1,none⟩=some (.int .i64 (k.regs s).hi))∧(W.cell? ⟨b,t*2,none⟩=some (.int .i64 (k.regs t).lo)∧W.cell? ⟨b,t*2+1,none⟩=some (.int .i64 (k.regs t).hi)):=fun W hW =>
  ⟨by subst hA;exact⟨zj7 hW 1,zj7 hW 2⟩,(HB W hW).cR s hs,(HB W hW).cR t ht⟩
 obtain⟨⟨f1,f2⟩,_⟩:=HF A (Below.refl _ _)
 go_enter Tryz.func241,Tryz.ntmps241
 go_wp2
 refine zaf 15 (fun W=>Below A.heap.size A W) (Below.refl _ _).drew (by kernel_rfl) (by kernel_rfl) ?_
 simp only [List.take,List.drop]
 clear f1 f2
 repeat(refine zab rfl ?_ (fun W hW=>?_) ?_;rotate_left 1;· (obtain⟨⟨f0,f1⟩,⟨f2,f3⟩,f4,f5⟩:=HF W hW;go_simp;with_reducible rfl))
 refine zaP rfl 242 #[rv (k.regs s),rv (k.regs t)] (rv ((k.regs s).minus (k.regs t))) (fun W hW=>?_) (fun W hW=>(zth _ _ W).mono (fun e w' hh=>⟨hh.1,hW.trans (hh.2.mono hW.size)⟩)) ?_
 ·go_simp
 refine wpQuiet_nil ?_
 intro W hW
 obtain⟨c0,c1,z0,z1⟩:=hC W hW
 go_wp2
 exact zbD (r:=(k.regs s).minus (k.regs t)) Tryz.results241 rfl rfl (zau c0 c1).1 (zau c0 c1).2 ⟨rfl,zaz (hL W hW) (by omega)⟩
theorem zvR{w:World}{b:Nat}{bv:Value}{k:Kn}(h:KnM w b bv k)(r s:Nat)(hs:s<8)(t:Nat)(ht:t<8):Calls Tryz.prog 241 #[.agg #[.int .i64 (r:Int),.int .i64 (s:Int),.int .i64 (t:Int)],.pointer (some ⟨b,0,none⟩)] w fun e w'=>e=.returned (rv (subR k s t))∧Below w.heap.size w w':=by
 by_cases e:s=t
 ·subst e;exact ztC r s
 ·exact zqG h r s hs t ht e
def zcu(k o:Kn):Bool:=decide (k.next=o.next)&&(decide (k.behind=o.behind)&&(covB k.regs o.regs 8&&covB k.cells o.cells 16))
theorem znv{w:World}{b c oo b1 c1:Nat}{a1 a2:Option Addr}{k o:Kn}(h:KnM w b (.slice a1 k.behind.length b1) k)(h2:KnR w c oo (.slice a2 o.behind.length c1) o)(B1:BhM w a1 b1 k.behind)(B2:BhM w a2 c1 o.behind):Calls Tryz.prog 168 #[.pointer (some ⟨b,0,none⟩),.pointer (some ⟨c,oo,none⟩)] w fun e w'=>e=.returned (.bool (zcu k o))∧Below w.heap.size w w':=by
 have hc:c<w.heap.size:=World.block_lt_of_cell? w _ h2.cN
 have HK:∀ W,Below w.heap.size w W→KnM W b (.slice a1 k.behind.length b1) k∧KnR W c oo (.slice a2 o.behind.length c1) o:=fun W hW=>⟨h.below hW h.lt,h2.block (hW.block c hc)⟩
 have HF:∀ W,Below w.heap.size w W→W.cell? ⟨b,48,none⟩=some (.int .i64 k.next)∧W.cell? ⟨c,oo+48,none⟩=some (.int .i64 o.next)∧W.cell? ⟨b,49,none⟩=some (.slice a1 k.behind.length b1)∧W.cell? ⟨c,oo+49,none⟩=some (.slice a2 o.behind.length c1):=fun W hW=>by
  obtain⟨k1,k2⟩:=HK W hW
  exact⟨k1.cN,k2.cN,k1.cB,k2.cB⟩
 have HE:∀ W,Below w.heap.size w W→Calls Tryz.prog 176 #[.slice a1 k.behind.length b1,.slice a2 o.behind.length c1] W fun e w'=>e=.returned (.bool (decide (k.behind=o.behind)))∧Below w.heap.size w w':=fun W hW=>(zq4 a1 a2 b1 c1 _ _ (B1.below hW) (B2.below hW)).mono fun e w' hh=>⟨hh.1,hW.trans (hh.2.mono hW.size)⟩
 have HR:∀ W,Below w.heap.size w W→Calls Tryz.prog 177 #[.slice (some ⟨b,0,none⟩) 8 8,.slice (some ⟨c,oo,none⟩) 8 8] W fun e w'=>e=.returned (.bool (covB k.regs o.regs 8))∧Below w.heap.size w w':=fun W hW=>by
  obtain⟨k1,k2⟩:=HK W hW
  exact(zlX b 0 8 c oo 8 8 k.regs o.regs (by omega) (fun r hr=>by rw [Nat.zero_add];exact k1.cR r hr) (fun r hr=>k2.cR r hr) k1.lt (Nat.lt_of_lt_of_le hc hW.size)).mono fun e w' hh=>⟨hh.1,hW.trans (hh.2.mono hW.size)⟩
 have HC:∀ W,Below w.heap.size w W→Calls Tryz.prog 177 #[.slice (some ⟨b,16,none⟩) 16 16,.slice (some ⟨c,oo+16,none⟩) 16 16] W fun e w'=>e=.returned (.bool (covB k.cells o.cells 16))∧Below w.heap.size w w':=fun W hW=>by
  obtain⟨k1,k2⟩:=HK W hW
  exact(zlX b 16 16 c (oo+16) 16 16 k.cells o.cells (by omega) (fun r hr=>k1.cC r hr) (fun r hr=>by have:=k2.cC r hr;rw [show oo+(16+r*2)=oo+16+r*2 by omega,show oo+(16+r*2+1)=oo+16+r*2+1 by omega] at this;exact this) k1.lt (Nat.lt_of_lt_of_le hc hW.size)).mono fun e w' hh=>⟨hh.1,hW.trans (hh.2.mono hW.size)⟩
 by_cases e1:k.next=o.next
 ·have t1:(k.next == o.next)=true:=by simpa using e1
  by_cases e2:k.behind=o.behind
  ·have t2:decide (k.behind=o.behind)=true:=by simpa using e2
   rw [t2] at HE
   cases e3:covB k.regs o.regs 8 with
   | false =>
    rw [e3] at HR
    have e0:zcu k o=false:=by unfold zcu;rw [e3];simp
    rw [e0]
    clear HC e2 t2 e3 e1 e0
    go_enter Tryz.func168,Tryz.ntmps168
    go_wp2
    refine zaf 42 (fun W=>Below w.heap.size w W) (Below.refl _ _).drew (by kernel_rfl) (by kernel_rfl) ?_
    simp only [List.take,List.drop]
    iterate 10 (refine zab rfl ?_ (fun W hW=>?_) ?_;rotate_left 1;· (obtain⟨f0,f1,f2,f3⟩:=HF W hW;go_simp;with_reducible rfl))
    simp only [Act.put,List.setIfInBounds_toArray,List.set_cons_zero,List.set_cons_succ]
    iterate 8 (go_big_quiet_want;rename_i K hK;refine⟨?_,fun W hW=>?_,hK _ ?_⟩;rotate_left 1;(· (obtain⟨f0,f1,f2,f3⟩:=HF W hW;unfold Oper.quietAt;go_simp;with_reducible rfl));clear hK K;simp only [Act.put,List.setIfInBounds_toArray,List.set_cons_zero,List.set_cons_succ])
    go_big_quiet_want;rename_i K hK;refine⟨.bool true,fun W hW=>?_,hK _ ?_⟩
    ·unfold Oper.quietAt;go_simp
    clear hK K
    simp only [Act.put,List.setIfInBounds_toArray,List.set_cons_zero,List.set_cons_succ]
    iterate 2 (refine zab rfl ?_ (fun W hW=>?_) ?_;rotate_left 1;· (obtain⟨f0,f1,f2,f3⟩:=HF W hW;go_simp;with_reducible rfl))
    simp only [Act.put,List.setIfInBounds_toArray,List.set_cons_zero,List.set_cons_succ]
    iterate 8 (go_big_quiet_want;rename_i K hK;refine⟨?_,fun W hW=>?_,hK _ ?_⟩;rotate_left 1;(· (obtain⟨f0,f1,f2,f3⟩:=HF W hW;unfold Oper.quietAt;go_simp;with_reducible rfl));clear hK K;simp only [Act.put,List.setIfInBounds_toArray,List.set_cons_zero,List.set_cons_succ])
    go_big_quiet_want;rename_i K hK;refine⟨.bool false,fun W hW=>?_,hK _ ?_⟩
    ·unfold Oper.quietAt;go_simp
    clear hK K
    simp only [Act.put,List.setIfInBounds_toArray,List.set_cons_zero,List.set_cons_succ]
    iterate 2 (refine zab rfl ?_ (fun W hW=>?_) ?_;rotate_left 1;· (obtain⟨f0,f1,f2,f3⟩:=HF W hW;go_simp;with_reducible rfl))
    simp only [Act.put,List.setIfInBounds_toArray,List.set_cons_zero,List.set_cons_succ]
    iterate 9 go_big_quiet_skip
    iterate 1 (refine zab rfl ?_ (fun W hW=>?_) ?_;rotate_left 1;· (obtain⟨f0,f1,f2,f3⟩:=HF W hW;go_simp;with_reducible rfl))
    simp only [Act.put,List.setIfInBounds_toArray,List.set_cons_zero,List.set_cons_succ]
    refine wpQuiet_nil ?_
    intro W hW
    go_wp2
    go_ret
    exact⟨rfl,hW⟩
   | true =>
    rw [e3] at HR
    have e0:zcu k o=covB k.cells o.cells 16:=by unfold zcu;rw [e3,t2,show decide (k.next=o.next)=true by simpa using e1];simp
    rw [e0]
    clear e2 t2 e3 e1 e0
    go_enter Tryz.func168,Tryz.ntmps168
    go_wp2
    refine zaf 42 (fun W=>Below w.heap.size w W) (Below.refl _ _).drew (by kernel_rfl) (by kernel_rfl) ?_
    simp only [List.take,List.drop]
    iterate 10 (refine zab rfl ?_ (fun W hW=>?_) ?_;rotate_left 1;· (obtain⟨f0,f1,f2,f3⟩:=HF W hW;go_simp;with_reducible rfl))
    simp only [Act.put,List.setIfInBounds_toArray,List.set_cons_zero,List.set_cons_succ]
    iterate 8 (go_big_quiet_want;rename_i K hK;refine⟨?_,fun W hW=>?_,hK _ ?_⟩;rotate_left 1;(· (obtain⟨f0,f1,f2,f3⟩:=HF W hW;unfold Oper.quietAt;go_simp;with_reducible rfl));clear hK K;simp only [Act.put,List.setIfInBounds_toArray,List.set_cons_zero,List.set_cons_succ])
    go_big_quiet_want;rename_i K hK;refine⟨.bool true,fun W hW=>?_,hK _ ?_⟩
    ·unfold Oper.quietAt;go_simp
    clear hK K
    simp only [Act.put,List.setIfInBounds_toArray,List.set_cons_zero,List.set_cons_succ]
    iterate 2 (refine zab rfl ?_ (fun W hW=>?_) ?_;rotate_left 1;· (obtain⟨f0,f1,f2,f3⟩:=HF W hW;go_simp;with_reducible rfl))
    simp only [Act.put,List.setIfInBounds_toArray,List.set_cons_zero,List.set_cons_succ]
    iterate 8 (go_big_quiet_want;rename_i K hK;refine⟨?_,fun W hW=>?_,hK _ ?_⟩;rotate_left 1;(· (obtain⟨f0,f1,f2,f3⟩:=HF W hW;unfold Oper.quietAt;go_simp;with_reducible rfl));clear hK K;simp only [Act.put,List.setIfInBounds_toArray,List.set_cons_zero,List.set_cons_succ])
    go_big_quiet_want;rename_i K hK;refine⟨.bool true,fun W hW=>?_,hK _ ?_⟩
    ·unfold Oper.quietAt;go_simp
    clear hK K
    simp only [Act.put,List.setIfInBounds_toArray,List.set_cons_zero,List.set_cons_succ]
    iterate 2 (refine zab rfl ?_ (fun W hW=>?_) ?_;rotate_left 1;· (obtain⟨f0,f1,f2,f3⟩:=HF W hW;go_simp;with_reducible rfl))
    simp only [Act.put,List.setIfInBounds_toArray,List.set_cons_zero,List.set_cons_succ]
    iterate 8 (go_big_quiet_want;rename_i K hK;refine⟨?_,fun W hW=>?_,hK _ ?_⟩;rotate_left 1;(· (obtain⟨f0,f1,f2,f3⟩:=HF W hW;unfold Oper.quietAt;go_simp;with_reducible rfl));clear hK K;simp only [Act.put,List.setIfInBounds_toArray,List.set_cons_zero,List.set_cons_succ])
    go_big_quiet_want;rename_i K hK;refine⟨.bool (covB k.cells o.cells 16),fun W hW=>?_,hK _ ?_⟩
    ·unfold Oper.quietAt;go_simp
    clear hK K
    simp only [Act.put,List.setIfInBounds_toArray,List.set_cons_zero,List.set_cons_succ]
    iterate 1 (refine zab rfl ?_ (fun W hW=>?_) ?_;rotate_left 1;· (obtain⟨f0,f1,f2,f3⟩:=HF W hW;go_simp;with_reducible rfl))
    simp only [Act.put,List.setIfInBounds_toArray,List.set_cons_zero,List.set_cons_succ]
    refine wpQuiet_nil ?_
    intro W hW
    go_wp2
    go_ret
    exact⟨rfl,hW⟩
  ·have t2:decide (k.behind=o.behind)=false:=by simpa using e2
   rw [t2] at HE
   have e0:zcu k o=false:=by unfold zcu;rw [t2];simp
   rw [e0]
   clear HR HC e2 t2 e1 e0
   go_enter Tryz.func168,Tryz.ntmps168
   go_wp2
   refine zaf 42 (fun W=>Below w.heap.size w W) (Below.refl _ _).drew (by kernel_rfl) (by kernel_rfl) ?_
   simp only [List.take,List.drop]
   iterate 10 (refine zab rfl ?_ (fun W hW=>?_) ?_;rotate_left 1;· (obtain⟨f0,f1,f2,f3⟩:=HF W hW;go_simp;with_reducible rfl))
   simp only [Act.put,List.setIfInBounds_toArray,List.set_cons_zero,List.set_cons_succ]
   iterate 8 (go_big_quiet_want;rename_i K hK;refine⟨?_,fun W hW=>?_,hK _ ?_⟩;rotate_left 1;(· (obtain⟨f0,f1,f2,f3⟩:=HF W hW;unfold Oper.quietAt;go_simp;with_reducible rfl));clear hK K;simp only [Act.put,List.setIfInBounds_toArray,List.set_cons_zero,List.set_cons_succ])
   go_big_quiet_want;rename_i K hK;refine⟨.bool false,fun W hW=>?_,hK _ ?_⟩
   ·unfold Oper.quietAt;go_simp
   clear hK K
   simp only [Act.put,List.setIfInBounds_toArray,List.set_cons_zero,List.set_cons_succ]
   iterate 2 (refine zab rfl ?_ (fun W hW=>?_) ?_;rotate_left 1;· (obtain⟨f0,f1,f2,f3⟩:=HF W hW;go_simp;with_reducible rfl))
   simp only [Act.put,List.setIfInBounds_toArray,List.set_cons_zero,List.set_cons_succ]
   iterate 9 go_big_quiet_skip
   iterate 2 (refine zab rfl ?_ (fun W hW=>?_) ?_;rotate_left 1;· (obtain⟨f0,f1,f2,f3⟩:=HF W hW;go_simp;with_reducible rfl))
   simp only [Act.put,List.setIfInBounds_toArray,List.set_cons_zero,List.set_cons_succ]
   iterate 9 go_big_quiet_skip
   iterate 1 (refine zab rfl ?_ (fun W hW=>?_) ?_;rotate_left 1;· (obtain⟨f0,f1,f2,f3⟩:=HF W hW;go_simp;with_reducible rfl))
   simp only [Act.put,List.setIfInBounds_toArray,List.set_cons_zero,List.set_cons_succ]
   refine wpQuiet_nil ?_
   intro W hW
   go_wp2
   go_ret
   exact⟨rfl,hW⟩
 ·have t1:(k.next == o.next)=false:=by simpa using e1
  have e0:zcu k o=false:=by unfold zcu;rw [show decide (k.next=o.next)=false by simpa using e1];simp
  rw [e0]
  clear HR HC HE e0 e1
  go_enter Tryz.func168,Tryz.ntmps168
  go_wp2
  refine zaf 42 (fun W=>Below w.heap.size w W) (Below.refl _ _).drew (by kernel_rfl) (by kernel_rfl) ?_
  simp only [List.take,List.drop]
  iterate 10 (refine zab rfl ?_ (fun W hW=>?_) ?_;rotate_left 1;· (obtain⟨f0,f1,f2,f3⟩:=HF W hW;go_simp;with_reducible rfl))
  simp only [Act.put,List.setIfInBounds_toArray,List.set_cons_zero,List.set_cons_succ]
  iterate 9 go_big_quiet_skip
  iterate 2 (refine zab rfl ?_ (fun W hW=>?_) ?_;rotate_left 1;· (obtain⟨f0,f1,f2,f3⟩:=HF W hW;go_simp;with_reducible rfl))
  simp only [Act.put,List.setIfInBounds_toArray,List.set_cons_zero,List.set_cons_succ]
  iterate 9 go_big_quiet_skip
  iterate 2 (refine zab rfl ?_ (fun W hW=>?_) ?_;rotate_left 1;· (obtain⟨f0,f1,f2,f3⟩:=HF W hW;go_simp;with_reducible rfl))
  simp only [Act.put,List.setIfInBounds_toArray,List.set_cons_zero,List.set_cons_succ]
  iterate 9 go_big_quiet_skip
  iterate 1 (refine zab rfl ?_ (fun W hW=>?_) ?_;rotate_left 1;· (obtain⟨f0,f1,f2,f3⟩:=HF W hW;go_simp;with_reducible rfl))
  simp only [Act.put,List.setIfInBounds_toArray,List.set_cons_zero,List.set_cons_succ]
  refine wpQuiet_nil ?_
  intro W hW
  go_wp2
  go_ret
  exact⟨rfl,hW⟩
end Go.Proofs.YtfpgjkbjbbgciaaGreatDoor
