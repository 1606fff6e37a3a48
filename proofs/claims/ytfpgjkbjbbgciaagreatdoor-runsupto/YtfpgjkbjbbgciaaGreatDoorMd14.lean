import Derived.Test.YtfpgjkbjbbgciaaGreatDoorMd11
set_option maxRecDepth 100000
set_option maxHeartbeats 8000000
namespace Go.Proofs.YtfpgjkbjbbgciaaGreatDoor
open Go.RowKit Sp
theorem zr9(L:List Said)(k:Nat)(h:k<L.length)(h1:(L[k].kind != 105)=true):zaG L k=false:=by
 simp at h1
 unfold zaG;rw [List.getElem?_eq_getElem h];simp only [h1,if_false]
theorem zfD(L:List Said)(k m:Nat)(h:k<L.length)(h1:(L[k].kind != 105)=false)(hl:L[k].kept.length=m+1)(h2:zaF (L[k].kept[0])=true):zaG L k=decide (zbZ L k (L[k].kept[m])<0):=by
 simp at h1
 unfold zaG Said.last;rw [List.getElem?_eq_getElem h];simp only [h1,if_true,zcE _ 0 (show 0<L[k].kept.length by omega),h2,hl]
 rw [zcE _ (m+1-1) (by omega)];rfl
theorem zk5(L:List Said)(k m:Nat)(h:k<L.length)(h1:(L[k].kind != 105)=false)(hl:L[k].kept.length=m+1)(h2:zaF (L[k].kept[0])=false)(h3:zcs (L[k].kept[0])=true):zaG L k=decide (zaJ L (L[k].kept[m]) 0<0):=by
 simp at h1
 unfold zaG Said.last;rw [List.getElem?_eq_getElem h];simp only [h1,if_true,zcE _ 0 (show 0<L[k].kept.length by omega),h2,h3,hl]
 rw [zcE _ (m+1-1) (by omega)];rfl
theorem zrA(L:List Said)(k m:Nat)(h:k<L.length)(h1:(L[k].kind != 105)=false)(hl:L[k].kept.length=m+1)(h2:zaF (L[k].kept[0])=false)(h3:zcs (L[k].kept[0])=false):zaG L k=false:=by
 simp at h1
 unfold zaG;rw [List.getElem?_eq_getElem h];simp [h1,zcE _ 0 (show 0<L[k].kept.length by omega),h2,h3]
theorem zk6(x:ByteArray)(h:(x.toList == [106,117,109,112])=true):zaF x=true:=by simp [zaF,isW,h]
theorem zk7(x:ByteArray)(h:(x.toList == [108,101,115,115])=true):zaF x=true:=by simp [zaF,isW,h]
theorem zk8(x:ByteArray)(h:(x.toList == [115,97,109,101])=true):zaF x=true:=by simp [zaF,isW,h]
theorem ziR(x:ByteArray)(h:(x.toList == [106,117,109,112])=false)(h1:(x.toList == [108,101,115,115])=false)(h2:(x.toList == [115,97,109,101])=false):zaF x=false:=by simp [zaF,isW,h,h1,h2]
theorem zhx(L:List Said)(g cap k:Nat)(w:World)(hL:LinesIn w g L)(hn:L.length≤1048577)(hk:k<L.length):
  Calls Tryz.prog 48 #[.slice (some ⟨g,0,none⟩) L.length cap,.int .i64 (k:Int)] w fun e w'=>e=.returned (.bool (zaG L k))∧w'=w:=by
 have hc:=hL.kind k hk
 have hb:=zd8 (hL.wf k hk)
 cases h105:(L[k].kind != 105) with
 | true =>
  have HT:Hid (false=zaG L k):=(zr9 L k hk h105).symm
  go_enter Tryz.func48,Tryz.ntmps48
  go_wp2
  go_ret
  exact⟨za9 HT.out,rfl⟩
 | false =>
  have h2:=wf_i (hL.wf k hk) (by simp at h105;simpa using h105)
  have hlen:0<L[k].kept.length:=by omega
  obtain⟨m,hm⟩:∃ m,L[k].kept.length=m+1:=⟨L[k].kept.length-1,by omega⟩
  have hm3:m≤3:=by omega
  obtain⟨b,c,hw,hwc⟩:=hL.words k hk (by omega)
  have hw0:=hwc 0 hlen
  have hlm:m<L[k].kept.length:=by omega
  have hwm:=hwc m hlm
  rw [hm] at hw
  have HM:Hid (L[k].kept.length=m+1):=hm
  clear hwc hm h2
  cases j1:((L[k].kept[0]'hlen).toList == [106,117,109,112]) with
  | true =>
   have HT:Hid (decide (zbZ L k (L[k].kept[m]'hlm)<0)=zaG L k):=(zfD L k m hk h105 HM.out (zk6 _ j1)).symm
   go_enter Tryz.func48,Tryz.ntmps48
   go_wp2_with(go_at_call 78;refine(zfn L g cap k _ _ hL hn hk).mono ?_;rintro e w' ⟨rfl,rfl⟩)
   go_ret
   exact⟨za9 HT.out,rfl⟩
  | false =>
   cases j2:((L[k].kept[0]'hlen).toList == [108,101,115,115]) with
   | true =>
    have HT:Hid (decide (zbZ L k (L[k].kept[m]'hlm)<0)=zaG L k):=(zfD L k m hk h105 HM.out (zk7 _ j2)).symm
    go_enter Tryz.func48,Tryz.ntmps48
    go_wp2_with(go_at_call 78;refine(zfn L g cap k _ _ hL hn hk).mono ?_;rintro e w' ⟨rfl,rfl⟩)
    go_ret
    exact⟨za9 HT.out,rfl⟩
   | false =>
    cases j3:((L[k].kept[0]'hlen).toList == [115,97,109,101]) with
    | true =>
     have HT:Hid (decide (zbZ L k (L[k].kept[m]'hlm)<0)=zaG L k):=(zfD L k m hk h105 HM.out (zk8 _ j3)).symm
     go_enter Tryz.func48,Tryz.ntmps48
     go_wp2_with(go_at_call 78;refine(zfn L g cap k _ _ hL hn hk).mono ?_;rintro e w' ⟨rfl,rfl⟩)
     go_ret
     exact⟨za9 HT.out,rfl⟩
    | false =>
     cases j4:((L[k].kept[0]'hlen).toList == [99,97,108,108]) with
     | true =>
      have HT:Hid (decide (zaJ L (L[k].kept[m]'hlm) 0<0)=zaG L k):=(zk5 L k m hk h105 HM.out (ziR _ j1 j2 j3) j4).symm
      go_enter Tryz.func48,Tryz.ntmps48
      go_wp2_with(go_at_call 77;refine(znS L g cap _ _ hL hn).mono ?_;rintro e w' ⟨rfl,rfl⟩)
      go_ret
      exact⟨za9 HT.out,rfl⟩
     | false =>
      have HT:Hid (false=zaG L k):=(zrA L k m hk h105 HM.out (ziR _ j1 j2 j3) j4).symm
      go_enter Tryz.func48,Tryz.ntmps48
      go_wp2
      go_ret
      exact⟨za9 HT.out,rfl⟩
theorem zrB(L:List Said)(k:Nat)(h:k<L.length)(h1:(L[k].kind != 102)=true):zbm L k=false:=by
 simp at h1
 unfold zbm;rw [List.getElem?_eq_getElem h];simp only [h1,if_false]
theorem zhy(L:List Said)(k:Nat)(h:k<L.length)(h1:(L[k].kind != 102)=false):zbm L k=!zdW L (k+1) false:=by
 simp at h1
 unfold zbm;rw [List.getElem?_eq_getElem h];simp only [h1,if_true]
theorem zw6(L:List Said)(i:Nat)(e:Bool)(h:i<L.length)(h0:(L[i].kind != 102)=true)(h1:(L[i].kind == 108)=true):zdW L i e=zdW L (i+1) false:=by
 simp at h0 h1
 rw [zd4 L i e h h0,if_pos h1]
theorem zw7(L:List Said)(i:Nat)(e:Bool)(h:i<L.length)(h0:(L[i].kind != 102)=true)(h1:(L[i].kind == 108)=false)(h2:(L[i].kind == 105)=true)(hl:0<L[i].kept.length):zdW L i e=zdW L (i+1) (ends (L[i].kept[0])):=by
 simp at h0 h1 h2
 rw [zd4 L i e h h0,if_neg h1,if_pos h2,zcE _ 0 hl]
theorem zw8(L:List Said)(i:Nat)(e:Bool)(h:i<L.length)(h0:(L[i].kind != 102)=true)(h1:(L[i].kind == 108)=false)(h2:(L[i].kind == 105)=false):zdW L i e=zdW L (i+1) e:=by
 simp at h0 h1 h2
 rw [zd4 L i e h h0,if_neg h1,if_neg h2]
theorem zxP(x:ByteArray)(h:(x.toList == [106,117,109,112])=true):ends x=true:=by simp [ends,isW,h]
theorem zxQ(x:ByteArray)(h:(x.toList == [98,97,99,107])=true):ends x=true:=by simp [ends,isW,h]
theorem zwo(x:ByteArray)(h:(x.toList == [106,117,109,112])=false)(h1:(x.toList == [98,97,99,107])=false):ends x=(x.toList == [115,116,111,112]):=by simp [ends,isW,h,h1]
theorem zhz(L:List Said)(g cap k:Nat)(w:World)(hL:LinesIn w g L)(hn:L.length≤1048577)(hk:k<L.length):
  Calls Tryz.prog 49 #[.slice (some ⟨g,0,none⟩) L.length cap,.int .i64 (k:Int)] w fun e w'=>e=.returned (.bool (zbm L k))∧w'=w:=by
 have hc:=hL.kind k hk
 have hb:=zd8 (hL.wf k hk)
 cases h102:(L[k].kind != 102) with
 | true =>
  have HT:Hid (false=zbm L k):=(zrB L k hk h102).symm
  go_enter Tryz.func49,Tryz.ntmps49
  go_wp2
  go_ret
  exact⟨za9 HT.out,rfl⟩
 | false =>
  have HT:Hid (zbm L k=!zdW L (k+1) false):=zhy L k hk h102
  go_enter Tryz.func49,Tryz.ntmps49
  go_wp2
  clear hc hb
  go_loop [5,6] (fun te ti=>∃(j:Nat) (e:Bool),j≤L.length∧ti=.int .i64 (j:Int)∧te=.bool e∧zbm L k=!zdW L j e) (fun _ ti=>L.length-(intOf ti).toNat)
  case atStart=>exact⟨k+1,false,by omega,by go_num,rfl,HT.out⟩
  case round =>
   obtain⟨j,e,hj,rfl,rfl,hR⟩:=hrel
   clear HT
   have HT:Hid (zbm L k=!zdW L j e):=hR
   clear hR
   by_cases hlt:j<L.length
   ·have hc:=hL.kind j hlt
    have hb:=zd8 (hL.wf j hlt)
    cases k102:(L[j].kind != 102) with
    | false =>
     have HQ:Hid ((!e)=zbm L k):=by unfold Hid;rw [HT.out,zm3 L j e hlt (by simpa using k102)]
     go_wp2
     go_ret
     exact⟨za9 HQ.out,rfl⟩
    | true =>
     cases k108:(L[j].kind == 108) with
     | true =>
      have HQ:Hid (zbm L k=!zdW L (j+1) false):=by unfold Hid;rw [HT.out,zw6 L j e hlt k102 k108]
      go_wp2
      go_round
      case rel=>exact⟨j+1,false,by omega,by go_num,rfl,HQ.out⟩
      case measure=>simp [intOf];omega
     | false =>
      cases k105:(L[j].kind == 105) with
      | false =>
       have HQ:Hid (zbm L k=!zdW L (j+1) e):=by unfold Hid;rw [HT.out,zw8 L j e hlt k102 k108 k105]
       go_wp2
       go_round
       case rel=>exact⟨j+1,e,by omega,by go_num,rfl,HQ.out⟩
       case measure=>simp [intOf];omega
      | true =>
       have h2:=wf_i (hL.wf j hlt) k105
       have hlen:0<L[j].kept.length:=by omega
       obtain⟨b,c,hw,hwc⟩:=hL.words j hlt (by omega)
       have hw0:=hwc 0 hlen
       clear hwc
       have HQ:Hid (zbm L k=!zdW L (j+1) (ends (L[j].kept[0]))):=by unfold Hid;rw [HT.out,zw7 L j e hlt k102 k108 k105 hlen]
       cases j1:((L[j].kept[0]'hlen).toList == [106,117,109,112]) with
       | true =>
        have HE:Hid (ends (L[j].kept[0])=true):=zxP _ j1
        go_wp2
        go_round
        case rel=>exact⟨j+1,true,by omega,by go_num,rfl,by rw [HQ.out,HE.out]⟩
        case measure=>simp [intOf];omega
       | false =>
        cases j2:((L[j].kept[0]'hlen).toList == [98,97,99,107]) with
        | true =>
         have HE:Hid (ends (L[j].kept[0])=true):=zxQ _ j2
         go_wp2
         go_round
         case rel=>exact⟨j+1,true,by omega,by go_num,rfl,by rw [HQ.out,HE.out]⟩
         case measure=>simp [intOf];omega
        | false =>
         cases j3:((L[j].kept[0]'hlen).toList == [115,116,111,112]) with
         | true =>
          have HE:Hid (ends (L[j].kept[0])=true):=(zwo _ j1 j2).trans j3
          go_wp2
          go_round
          case rel=>exact⟨j+1,true,by omega,by go_num,rfl,by rw [HQ.out,HE.out]⟩
          case measure=>simp [intOf];omega
         | false =>
          have HE:Hid (ends (L[j].kept[0])=false):=(zwo _ j1 j2).trans j3
          go_wp2
          go_round
          case rel=>exact⟨j+1,false,by omega,by go_num,rfl,by rw [HQ.out,HE.out]⟩
          case measure=>simp [intOf];omega
   ·have HQ:Hid ((!e)=zbm L k):=by unfold Hid;rw [HT.out,zhw L j e hlt]
    go_wp2
    go_ret
    exact⟨za9 HQ.out,rfl⟩
theorem zlc(f:Nat→Int)(i:Nat)(a b:Int):upd (upd f i a) i b=upd f i b:=by
 funext j
 unfold upd
 split <;> rfl
theorem zae{a b c:World}{q:Option Nat}(h:a.grownBy b q)(k:b.grownBy c q):a.grownBy c q :=
 ⟨k.os.trans h.os,k.tape.trans h.tape,k.output.trans h.output,Nat.le_trans h.size k.size,fun i hi hne=>(k.block i (Nat.lt_of_lt_of_le hi h.size) hne).trans (h.block i hi hne)⟩
theorem zld(w:World)(b wb cap r s n:Nat)(lv bv iv ov:Value)(m:Mc)(x1 x2:ByteArray)(h:RefM w b lv bv iv ov m)(hw:WdIn w wb [⟨#[108,111,97,100]⟩,x1,x2])(_hne:¬wb=b)(hr:r<8)(hreg:reg x1=(r:Int))(hs:s<8)(hreg2:reg x2=(s:Int))(hn:m.regs s=(n:Int))(hn16:n<16)(hx1:x1.size≤1048576)(hx2:x2.size≤1048576):
  Calls Tryz.prog 90 #[.pointer (some ⟨b,0,none⟩),.slice (some ⟨wb,0,none⟩) 3 cap] w fun e w'=>e=.returned (.tuple #[])∧RefM w' b lv bv iv ov { m with regs:=upd m.regs r (m.cells n) }∧w.grownBy w' (some b):=by
 have c0:=hw 0 (by simp)
 have c1:=hw 1 (by simp)
 have c2:=hw 2 (by simp)
 simp only [List.getElem_cons_zero,List.getElem_cons_succ] at c0 c1 c2
 have hcr:=h.cR r hr
 have hfz:=h.fz (5+r)
 have hr0:(0:Int)≤(r:Int):=by omega
 have hr8:(r:Int)<8:=by omega
 have g1:=zap x1 r hreg hx1
 have hcc:=h.cC n hn16
 have hn0:(0:Int)≤(n:Int):=by omega
 have hn1:(n:Int)<16:=by omega
 have g2:=zsr w b s n lv bv iv ov m x2 h hs hreg2 hx2 hn hn16
 clear hn
 go_enter Tryz.func90,Tryz.ntmps90
 go_wp2_with(first|(go_at_call 75;refine(g1 _).mono ?_;rintro e wx ⟨rfl,hww⟩;have hw2:=hww.symm;subst hw2)|(go_at_call 112;refine g2.mono ?_;rintro e wx ⟨rfl,k,rfl⟩))
 go_region
 all_goals go_wp2
 all_goals go_end0
 all_goals first|exact⟨rfl,(h.drewN (k+1)).setR r hr _,zac (zaN _ _)⟩|exact⟨rfl,((h.drewN k).setR r hr _).drew,zby (zac (zaN _ _))⟩
theorem zjT(w:World)(b wb cap r s:Nat)(lv bv iv ov:Value)(m:Mc)(x1 x2:ByteArray)(h:RefM w b lv bv iv ov m)(hw:WdIn w wb [⟨#[108,111,97,100]⟩,x1,x2])(_hne:¬wb=b)(hr:r<8)(hreg:reg x1=(r:Int))(hs:s<8)(hreg2:reg x2=(s:Int))(hn:m.regs s<0∨15<m.regs s)(hx1:x1.size≤1048576)(hx2:x2.size≤1048576):
  Calls Tryz.prog 90 #[.pointer (some ⟨b,0,none⟩),.slice (some ⟨wb,0,none⟩) 3 cap] w fun e w'=>e=.returned (.tuple #[])∧RefM w' b lv bv iv ov { m with fin:=3 }∧w.grownBy w' (some b):=by
 have c0:=hw 0 (by simp)
 have c1:=hw 1 (by simp)
 have c2:=hw 2 (by simp)
 simp only [List.getElem_cons_zero,List.getElem_cons_succ] at c0 c1 c2
 have hcr:=h.cR r hr
 have hfz:=h.fz (5+r)
 have hr0:(0:Int)≤(r:Int):=by omega
 have hr8:(r:Int)<8:=by omega
 have g1:=zap x1 r hreg hx1
 have g2:=zod w b s lv bv iv ov m x2 h hs hreg2 hx2 hn
 clear hn
 go_enter Tryz.func90,Tryz.ntmps90
 go_wp2_with(first|(go_at_call 75;refine(g1 _).mono ?_;rintro e wx ⟨rfl,hww⟩;have hw2:=hww.symm;subst hw2)|(go_at_call 112;refine g2.mono ?_;rintro e wx ⟨rfl,hM,hg⟩))
 go_end0
 exact⟨rfl,hM,hg⟩
theorem zjU(w:World)(b wb cap r s n:Nat)(lv bv iv ov:Value)(m:Mc)(x1 x2:ByteArray)(h:RefM w b lv bv iv ov m)(hw:WdIn w wb [⟨#[115,116,111,114,101]⟩,x1,x2])(_hne:¬wb=b)(hr:r<8)(hreg:reg x1=(r:Int))(hs:s<8)(hreg2:reg x2=(s:Int))(hn:m.regs r=(n:Int))(hn16:n<16)(hx1:x1.size≤1048576)(hx2:x2.size≤1048576):
  Calls Tryz.prog 90 #[.pointer (some ⟨b,0,none⟩),.slice (some ⟨wb,0,none⟩) 3 cap] w fun e w'=>e=.returned (.tuple #[])∧RefM w' b lv bv iv ov { m with cells:=upd m.cells n (m.regs s) }∧w.grownBy w' (some b):=by
 have c0:=hw 0 (by simp)
 have c1:=hw 1 (by simp)
 have c2:=hw 2 (by simp)
 simp only [List.getElem_cons_zero,List.getElem_cons_succ] at c0 c1 c2
 have hcr:=h.cR r hr
 have hfz:=h.fz (5+r)
 have hr0:(0:Int)≤(r:Int):=by omega
 have hr8:(r:Int)<8:=by omega
 have g1:=zap x1 r hreg hx1
 have hcc:=h.cC n hn16
 have hfc:=h.fz (13+n)
 have hcs:=h.cR s hs
 have hs0:(0:Int)≤(s:Int):=by omega
 have hs8:(s:Int)<8:=by omega
 have hn0:(0:Int)≤(n:Int):=by omega
 have hn1:(n:Int)<16:=by omega
 have g2:=zsr w b r n lv bv iv ov m x1 h hr hreg hx1 hn hn16
 have g3:=zap x2 s hreg2 hx2
 clear hn hcr
 go_enter Tryz.func90,Tryz.ntmps90
 go_wp2_with(first|(go_at_call 75;refine(g1 _).mono ?_;rintro e wx ⟨rfl,hww⟩;have hw2:=hww.symm;subst hw2)|(go_at_call 112;refine g2.mono ?_;rintro e wx ⟨rfl,k,rfl⟩))
 go_region_with(go_at_call 75;refine(g3 _).mono ?_;rintro e wx ⟨rfl,hww⟩;have hw2:=hww.symm;subst hw2)
 all_goals go_wp2
 all_goals go_end0
 all_goals first|exact⟨rfl,(h.drewN (k+1)).setC n hn16 _,zac (zaN _ _)⟩|exact⟨rfl,((h.drewN k).setC n hn16 _).drew,zby (zac (zaN _ _))⟩
theorem ziB(w:World)(b wb cap r:Nat)(lv bv iv ov:Value)(m:Mc)(x1 x2:ByteArray)(h:RefM w b lv bv iv ov m)(hw:WdIn w wb [⟨#[115,116,111,114,101]⟩,x1,x2])(_hne:¬wb=b)(hr:r<8)(hreg:reg x1=(r:Int))(hn:m.regs r<0∨15<m.regs r)(hx1:x1.size≤1048576)(_hx2:x2.size≤1048576):
  Calls Tryz.prog 90 #[.pointer (some ⟨b,0,none⟩),.slice (some ⟨wb,0,none⟩) 3 cap] w fun e w'=>e=.returned (.tuple #[])∧RefM w' b lv bv iv ov { m with fin:=3 }∧w.grownBy w' (some b):=by
 have c0:=hw 0 (by simp)
 have c1:=hw 1 (by simp)
 have c2:=hw 2 (by simp)
 simp only [List.getElem_cons_zero,List.getElem_cons_succ] at c0 c1 c2
 have hcr:=h.cR r hr
 have hfz:=h.fz (5+r)
 have hr0:(0:Int)≤(r:Int):=by omega
 have hr8:(r:Int)<8:=by omega
 have g1:=zap x1 r hreg hx1
 have g2:=zod w b r lv bv iv ov m x1 h hr hreg hx1 hn
 clear hn hcr
 go_enter Tryz.func90,Tryz.ntmps90
 go_wp2_with(first|(go_at_call 75;refine(g1 _).mono ?_;rintro e wx ⟨rfl,hww⟩;have hw2:=hww.symm;subst hw2)|(go_at_call 112;refine g2.mono ?_;rintro e wx ⟨rfl,hM,hg⟩))
 go_end0
 exact⟨rfl,hM,hg⟩
theorem ziC(w:World)(b wb cap r:Nat)(lv bv iv ov:Value)(m:Mc)(x1:ByteArray)(h:RefM w b lv bv iv ov m)(hw:WdIn w wb [⟨#[114,101,97,100]⟩,x1])(_hne:¬wb=b)(hr:r<8)(hreg:reg x1=(r:Int))(ao:Option Addr)(icap:Nat)(hiv:iv=.slice ao 0 icap)(hx1:x1.size≤1048576):
  Calls Tryz.prog 90 #[.pointer (some ⟨b,0,none⟩),.slice (some ⟨wb,0,none⟩) 2 cap] w fun e w'=>e=.returned (.tuple #[])∧RefM w' b lv bv iv ov { m with regs:=upd m.regs r 0 }∧w.grownBy w' (some b):=by
 have c0:=hw 0 (by simp)
 have c1:=hw 1 (by simp)
 simp only [List.getElem_cons_zero,List.getElem_cons_succ] at c0 c1
 have hcr:=h.cR r hr
 have hfz:=h.fz (5+r)
 have hr0:(0:Int)≤(r:Int):=by omega
 have hr8:(r:Int)<8:=by omega
 have g1:=zap x1 r hreg hx1
 have hci:=h.cI
 rw [hiv] at hci
 go_enter Tryz.func90,Tryz.ntmps90
 go_wp2_with(first|(go_at_call 75;refine(g1 _).mono ?_;rintro e wx ⟨rfl,hww⟩;have hw2:=hww.symm;subst hw2))
 go_end0
 exact⟨rfl,h.setR r hr _,zac (Below.refl _ _)⟩
theorem ziD(w:World)(b wb cap r g o icap n:Nat)(lv bv iv ov:Value)(m:Mc)(x1:ByteArray)(h:RefM w b lv bv iv ov m)(hw:WdIn w wb [⟨#[114,101,97,100]⟩,x1])(_hne:¬wb=b)(hr:r<8)(hreg:reg x1=(r:Int))(v:Int)(l:List Int)(hiv:iv=.slice (some ⟨g,o,none⟩) (n+1) icap)(hcg:w.cell? ⟨g,o,none⟩=some (.int .i64 v))(hgb:¬g=b)(hic:n+1≤icap)(hn:n≤1048576)(hx1:x1.size≤1048576):
  Calls Tryz.prog 90 #[.pointer (some ⟨b,0,none⟩),.slice (some ⟨wb,0,none⟩) 2 cap] w fun e w'=>e=.returned (.tuple #[])∧(∃ o',RefM w' b lv bv (.slice (some ⟨g,o',none⟩) n (icap-1)) ov { m with regs:=upd m.regs r v,inp:=l }∧(n=0∨o'=o+1))∧w.grownBy w' (some b):=by
 have c0:=hw 0 (by simp)
 have c1:=hw 1 (by simp)
 simp only [List.getElem_cons_zero,List.getElem_cons_succ] at c0 c1
 have hcr:=h.cR r hr
 have hfz:=h.fz (5+r)
 have hr0:(0:Int)≤(r:Int):=by omega
 have hr8:(r:Int)<8:=by omega
 have g1:=zap x1 r hreg hx1
 have hci:=h.cI
 rw [hiv] at hci
 have hfi:=h.fz 3
 have hbg:¬b=g:=fun e=>hgb e.symm
 have h0:=h
 go_enter Tryz.func90,Tryz.ntmps90
 go_wp2_with(first|(go_at_call 75;refine(g1 _).mono ?_;rintro e wx ⟨rfl,hww⟩;have hw2:=hww.symm;subst hw2))
 go_region
 all_goals go_wp2
 all_goals go_end0
 ·have hR:=((h0.setR r hr 0).setR r hr v).setI (.slice (some ⟨g,o,none⟩) n 0) l
  rw [zlc] at hR
  exact⟨rfl,⟨o,hR.drew,.inl (by omega)⟩,zby (zae (zae (zac (Below.refl _ _)) (zac (Below.refl _ _))) (zac (Below.refl _ _)))⟩
 ·have hR:=((h0.setR r hr 0).setR r hr v).setI (.slice (some ⟨g,o+1,none⟩) n (icap-1)) l
  rw [zlc] at hR
  exact⟨rfl,⟨o+1,hR.drew,.inr rfl⟩,zby (zae (zae (zac (Below.refl _ _)) (zac (Below.refl _ _))) (zac (Below.refl _ _)))⟩
end Go.Proofs.YtfpgjkbjbbgciaaGreatDoor
namespace Go.Proofs.YtfpgjkbjbbgciaaGreatDoor
open Sp
inductive Form:List ByteArray→Prop
 | set_ (x1 x2:ByteArray) (hx1:0≤reg x1) (hx2:(zaE x2).2=true):Form [⟨#[115,101,116]⟩,x1,x2]
 | inc_ (x1 x2:ByteArray) (hx1:0≤reg x1) (hx2:(zaE x2).2=true):Form [⟨#[105,110,99]⟩,x1,x2]
 | mov_ (x1 x2:ByteArray) (hx1:0≤reg x1) (hx2:0≤reg x2):Form [⟨#[109,111,118]⟩,x1,x2]
 | load_ (x1 x2:ByteArray) (hx1:0≤reg x1) (hx2:0≤reg x2):Form [⟨#[108,111,97,100]⟩,x1,x2]
 | store_ (x1 x2:ByteArray) (hx1:0≤reg x1) (hx2:0≤reg x2):Form [⟨#[115,116,111,114,101]⟩,x1,x2]
 | add_ (x1 x2 x3:ByteArray) (hx1:0≤reg x1) (hx2:0≤reg x2) (hx3:0≤reg x3):Form [⟨#[97,100,100]⟩,x1,x2,x3]
 | sub_ (x1 x2 x3:ByteArray) (hx1:0≤reg x1) (hx2:0≤reg x2) (hx3:0≤reg x3):Form [⟨#[115,117,98]⟩,x1,x2,x3]
 | mul_ (x1 x2 x3:ByteArray) (hx1:0≤reg x1) (hx2:0≤reg x2) (hx3:0≤reg x3):Form [⟨#[109,117,108]⟩,x1,x2,x3]
 | read_ (x1:ByteArray) (hx1:0≤reg x1):Form [⟨#[114,101,97,100]⟩,x1]
 | write_ (x1:ByteArray) (hx1:0≤reg x1):Form [⟨#[119,114,105,116,101]⟩,x1]
 | jump_ (x1:ByteArray) (hx1:za2 x1=true):Form [⟨#[106,117,109,112]⟩,x1]
 | call_ (x1:ByteArray) (hx1:za2 x1=true):Form [⟨#[99,97,108,108]⟩,x1]
 | less_ (x1 x2 x3:ByteArray) (hx1:0≤reg x1) (hx2:0≤reg x2) (hx3:za2 x3=true):Form [⟨#[108,101,115,115]⟩,x1,x2,x3]
 | same_ (x1 x2 x3:ByteArray) (hx1:0≤reg x1) (hx2:0≤reg x2) (hx3:za2 x3=true):Form [⟨#[115,97,109,101]⟩,x1,x2,x3]
 | back_:Form [⟨#[98,97,99,107]⟩]
 | stop_:Form [⟨#[115,116,111,112]⟩]
theorem op_r(x:ByteArray):opOk 82 x=decide (0≤reg x):=rfl
theorem op_k(x:ByteArray):opOk 75 x=(zaE x).2:=rfl
theorem op_n(x:ByteArray):opOk 78 x=za2 x:=rfl
theorem zxa(x:ByteArray)(r:List ByteArray)(h:zgV x r=true):Form (x :: r):=by
 unfold zgV at h
 cases h0:(x.toList == [115,101,116]) with
 | true =>
  have:=zaw x _ h0
  subst this
  change (if zaa ⟨#[115,101,116]⟩=[63]∨¬r.length=(zaa ⟨#[115,101,116]⟩).length then false else zaT (zaa ⟨#[115,101,116]⟩) r)=true at h
  rw [zh3] at h
  split at h
  ·cases h
  ·rename_i hc
   have hl:r.length=2:=by
    rcases Nat.decEq r.length 2 with h'|h'
    ·exact absurd (.inr (by simpa using h')) hc
    ·exact h'
   match r,hl,h with
   | [x1,x2],_,h =>
    simp only [zaT,op_r,op_k,Bool.and_true,Bool.and_eq_true,decide_eq_true_eq] at h
    exact .set_ x1 x2 h.1 h.2
 | false =>
  cases h1:(x.toList == [105,110,99]) with
  | true =>
   have:=zaw x _ h1
   subst this
   change (if zaa ⟨#[105,110,99]⟩=[63]∨¬r.length=(zaa ⟨#[105,110,99]⟩).length then false else zaT (zaa ⟨#[105,110,99]⟩) r)=true at h
   rw [zh4] at h
   split at h
   ·cases h
   ·rename_i hc
    have hl:r.length=2:=by
     rcases Nat.decEq r.length 2 with h'|h'
     ·exact absurd (.inr (by simpa using h')) hc
     ·exact h'
    match r,hl,h with
    | [x1,x2],_,h =>
     simp only [zaT,op_r,op_k,Bool.and_true,Bool.and_eq_true,decide_eq_true_eq] at h
     exact .inc_ x1 x2 h.1 h.2
  | false =>
   cases h2:(x.toList == [109,111,118]) with
   | true =>
    have:=zaw x _ h2
    subst this
    change (if zaa ⟨#[109,111,118]⟩=[63]∨¬r.length=(zaa ⟨#[109,111,118]⟩).length then false else zaT (zaa ⟨#[109,111,118]⟩) r)=true at h
    rw [zh5] at h
    split at h
    ·cases h
    ·rename_i hc
     have hl:r.length=2:=by
      rcases Nat.decEq r.length 2 with h'|h'
      ·exact absurd (.inr (by simpa using h')) hc
      ·exact h'
     match r,hl,h with
     | [x1,x2],_,h =>
      simp only [zaT,op_r,Bool.and_true,Bool.and_eq_true,decide_eq_true_eq] at h
      exact .mov_ x1 x2 h.1 h.2
   | false =>
    cases h3:(x.toList == [108,111,97,100]) with
    | true =>
     have:=zaw x _ h3
     subst this
     change (if zaa ⟨#[108,111,97,100]⟩=[63]∨¬r.length=(zaa ⟨#[108,111,97,100]⟩).length then false else zaT (zaa ⟨#[108,111,97,100]⟩) r)=true at h
     rw [zgC] at h
     split at h
     ·cases h
     ·rename_i hc
      have hl:r.length=2:=by
       rcases Nat.decEq r.length 2 with h'|h'
       ·exact absurd (.inr (by simpa using h')) hc
       ·exact h'
      match r,hl,h with
      | [x1,x2],_,h =>
       simp only [zaT,op_r,Bool.and_true,Bool.and_eq_true,decide_eq_true_eq] at h
       exact .load_ x1 x2 h.1 h.2
    | false =>
     cases h4:(x.toList == [115,116,111,114,101]) with
     | true =>
      have:=zaw x _ h4
      subst this
      change (if zaa ⟨#[115,116,111,114,101]⟩=[63]∨¬r.length=(zaa ⟨#[115,116,111,114,101]⟩).length then false else zaT (zaa ⟨#[115,116,111,114,101]⟩) r)=true at h
      rw [zfI] at h
      split at h
      ·cases h
      ·rename_i hc
       have hl:r.length=2:=by
        rcases Nat.decEq r.length 2 with h'|h'
        ·exact absurd (.inr (by simpa using h')) hc
        ·exact h'
       match r,hl,h with
       | [x1,x2],_,h =>
        simp only [zaT,op_r,Bool.and_true,Bool.and_eq_true,decide_eq_true_eq] at h
        exact .store_ x1 x2 h.1 h.2
     | false =>
      cases h5:(x.toList == [97,100,100]) with
      | true =>
       have:=zaw x _ h5
       subst this
       change (if zaa ⟨#[97,100,100]⟩=[63]∨¬r.length=(zaa ⟨#[97,100,100]⟩).length then false else zaT (zaa ⟨#[97,100,100]⟩) r)=true at h
       rw [zh6] at h
       split at h
       ·cases h
       ·rename_i hc
        have hl:r.length=3:=by
         rcases Nat.decEq r.length 3 with h'|h'
         ·exact absurd (.inr (by simpa using h')) hc
         ·exact h'
        match r,hl,h with
        | [x1,x2,x3],_,h =>
         simp only [zaT,op_r,Bool.and_true,Bool.and_eq_true,decide_eq_true_eq] at h
         exact .add_ x1 x2 x3 h.1 h.2.1 h.2.2
      | false =>
       cases h6:(x.toList == [115,117,98]) with
       | true =>
        have:=zaw x _ h6
        subst this
        change (if zaa ⟨#[115,117,98]⟩=[63]∨¬r.length=(zaa ⟨#[115,117,98]⟩).length then false else zaT (zaa ⟨#[115,117,98]⟩) r)=true at h
        rw [zh7] at h
        split at h
        ·cases h
        ·rename_i hc
         have hl:r.length=3:=by
          rcases Nat.decEq r.length 3 with h'|h'
          ·exact absurd (.inr (by simpa using h')) hc
          ·exact h'
         match r,hl,h with
         | [x1,x2,x3],_,h =>
          simp only [zaT,op_r,Bool.and_true,Bool.and_eq_true,decide_eq_true_eq] at h
          exact .sub_ x1 x2 x3 h.1 h.2.1 h.2.2
       | false =>
        cases h7:(x.toList == [109,117,108]) with
        | true =>
         have:=zaw x _ h7
         subst this
         change (if zaa ⟨#[109,117,108]⟩=[63]∨¬r.length=(zaa ⟨#[109,117,108]⟩).length then false else zaT (zaa ⟨#[109,117,108]⟩) r)=true at h
         rw [zh8] at h
         split at h
         ·cases h
         ·rename_i hc
          have hl:r.length=3:=by
           rcases Nat.decEq r.length 3 with h'|h'
           ·exact absurd (.inr (by simpa using h')) hc
           ·exact h'
          match r,hl,h with
          | [x1,x2,x3],_,h =>
           simp only [zaT,op_r,Bool.and_true,Bool.and_eq_true,decide_eq_true_eq] at h
           exact .mul_ x1 x2 x3 h.1 h.2.1 h.2.2
        | false =>
         cases h8:(x.toList == [114,101,97,100]) with
         | true =>
          have:=zaw x _ h8
          subst this
          change (if zaa ⟨#[114,101,97,100]⟩=[63]∨¬r.length=(zaa ⟨#[114,101,97,100]⟩).length then false else zaT (zaa ⟨#[114,101,97,100]⟩) r)=true at h
          rw [zgD] at h
          split at h
          ·cases h
          ·rename_i hc
           have hl:r.length=1:=by
            rcases Nat.decEq r.length 1 with h'|h'
            ·exact absurd (.inr (by simpa using h')) hc
            ·exact h'
           match r,hl,h with
           | [x1],_,h =>
            simp only [zaT,op_r,Bool.and_true,decide_eq_true_eq] at h
            exact .read_ x1 h
         | false =>
          cases h9:(x.toList == [119,114,105,116,101]) with
          | true =>
           have:=zaw x _ h9
           subst this
           change (if zaa ⟨#[119,114,105,116,101]⟩=[63]∨¬r.length=(zaa ⟨#[119,114,105,116,101]⟩).length then false else zaT (zaa ⟨#[119,114,105,116,101]⟩) r)=true at h
           rw [zfJ] at h
           split at h
           ·cases h
           ·rename_i hc
            have hl:r.length=1:=by
             rcases Nat.decEq r.length 1 with h'|h'
             ·exact absurd (.inr (by simpa using h')) hc
             ·exact h'
            match r,hl,h with
            | [x1],_,h =>
             simp only [zaT,op_r,Bool.and_true,decide_eq_true_eq] at h
             exact .write_ x1 h
          | false =>
           cases h10:(x.toList == [106,117,109,112]) with
           | true =>
            have:=zaw x _ h10
            subst this
            change (if zaa ⟨#[106,117,109,112]⟩=[63]∨¬r.length=(zaa ⟨#[106,117,109,112]⟩).length then false else zaT (zaa ⟨#[106,117,109,112]⟩) r)=true at h
            rw [zgE] at h
            split at h
            ·cases h
            ·rename_i hc
             have hl:r.length=1:=by
              rcases Nat.decEq r.length 1 with h'|h'
              ·exact absurd (.inr (by simpa using h')) hc
              ·exact h'
             match r,hl,h with
             | [x1],_,h =>
              simp only [zaT,op_n,Bool.and_true] at h
              exact .jump_ x1 h
           | false =>
            cases h11:(x.toList == [99,97,108,108]) with
            | true =>
             have:=zaw x _ h11
             subst this
             change (if zaa ⟨#[99,97,108,108]⟩=[63]∨¬r.length=(zaa ⟨#[99,97,108,108]⟩).length then false else zaT (zaa ⟨#[99,97,108,108]⟩) r)=true at h
             rw [zgF] at h
             split at h
             ·cases h
             ·rename_i hc
              have hl:r.length=1:=by
               rcases Nat.decEq r.length 1 with h'|h'
               ·exact absurd (.inr (by simpa using h')) hc
               ·exact h'
              match r,hl,h with
              | [x1],_,h =>
               simp only [zaT,op_n,Bool.and_true] at h
               exact .call_ x1 h
            | false =>
             cases h12:(x.toList == [108,101,115,115]) with
             | true =>
              have:=zaw x _ h12
              subst this
              change (if zaa ⟨#[108,101,115,115]⟩=[63]∨¬r.length=(zaa ⟨#[108,101,115,115]⟩).length then false else zaT (zaa ⟨#[108,101,115,115]⟩) r)=true at h
              rw [zgG] at h
              split at h
              ·cases h
              ·rename_i hc
               have hl:r.length=3:=by
                rcases Nat.decEq r.length 3 with h'|h'
                ·exact absurd (.inr (by simpa using h')) hc
                ·exact h'
               match r,hl,h with
               | [x1,x2,x3],_,h =>
                simp only [zaT,op_r,op_n,Bool.and_true,Bool.and_eq_true,decide_eq_true_eq] at h
                exact .less_ x1 x2 x3 h.1 h.2.1 h.2.2
             | false =>
              cases h13:(x.toList == [115,97,109,101]) with
              | true =>
               have:=zaw x _ h13
               subst this
               change (if zaa ⟨#[115,97,109,101]⟩=[63]∨¬r.length=(zaa ⟨#[115,97,109,101]⟩).length then false else zaT (zaa ⟨#[115,97,109,101]⟩) r)=true at h
               rw [zgH] at h
               split at h
               ·cases h
               ·rename_i hc
                have hl:r.length=3:=by
                 rcases Nat.decEq r.length 3 with h'|h'
                 ·exact absurd (.inr (by simpa using h')) hc
                 ·exact h'
                match r,hl,h with
                | [x1,x2,x3],_,h =>
                 simp only [zaT,op_r,op_n,Bool.and_true,Bool.and_eq_true,decide_eq_true_eq] at h
                 exact .same_ x1 x2 x3 h.1 h.2.1 h.2.2
              | false =>
               cases h14:(x.toList == [98,97,99,107]) with
               | true =>
                have:=zaw x _ h14
                subst this
                change (if zaa ⟨#[98,97,99,107]⟩=[63]∨¬r.length=(zaa ⟨#[98,97,99,107]⟩).length then false else zaT (zaa ⟨#[98,97,99,107]⟩) r)=true at h
                rw [zgI] at h
                split at h
                ·cases h
                ·rename_i hc
                 have hl:r.length=0:=by
                  rcases Nat.decEq r.length 0 with h'|h'
                  ·exact absurd (.inr (by simpa using h')) hc
                  ·exact h'
                 obtain rfl:r=[]:=List.eq_nil_of_length_eq_zero hl
                 exact .back_
               | false =>
                cases h15:(x.toList == [115,116,111,112]) with
                | true =>
                 have:=zaw x _ h15
                 subst this
                 change (if zaa ⟨#[115,116,111,112]⟩=[63]∨¬r.length=(zaa ⟨#[115,116,111,112]⟩).length then false else zaT (zaa ⟨#[115,116,111,112]⟩) r)=true at h
                 rw [zgJ] at h
                 split at h
                 ·cases h
                 ·rename_i hc
                  have hl:r.length=0:=by
                   rcases Nat.decEq r.length 0 with h'|h'
                   ·exact absurd (.inr (by simpa using h')) hc
                   ·exact h'
                  obtain rfl:r=[]:=List.eq_nil_of_length_eq_zero hl
                  exact .stop_
                | false =>
                 rw [if_pos (.inl (znT x h0 h1 h2 h3 h4 h5 h6 h7 h8 h9 h10 h11 h12 h13 h14 h15))] at h;cases h
theorem zaq(x:ByteArray)(h:0≤reg x):regN x<8∧reg x=(regN x:Int):=by
 have:reg x≤7:=by
  unfold reg at h ⊢
  split
  ·rename_i hb
   unfold regB at hb
   simp at hb
   omega
  ·omega
 unfold regN
 omega
theorem zxb(s:ByteArray)(h:(say s).ok=true)(h5:(say s).kind=105):Form (say s).kept:=by
 have hv:zao s 0=true:=by
  cases hv:zao s 0 with
  | true=>rfl
  | false=>rw [zfs s hv] at h;cases h
 rw [zhB s hv] at h h5 ⊢
 generalize words s=l at h h5 ⊢
 cases l with
 | nil=>simp [sayW] at h5
 | cons x r =>
  have e:sayW (x :: r)=⟨105,x :: r,if zaa x=[63]∨¬(x :: r).length=(zaa x).length+1 then false else zaT (zaa x) r⟩:=by
   unfold sayW at h5 ⊢
   dsimp only at h5 ⊢
   split at h5
   ·simp at h5
   ·rename_i hf
    rw [if_neg hf]
    split at h5
    ·simp at h5
    ·rename_i hg
     rw [if_neg hg]
  rw [e] at h ⊢
  refine zxa x r ?_
  simpa [zgV] using h
end Go.Proofs.YtfpgjkbjbbgciaaGreatDoor
