import Derived.Test.YtfpgjkbjbbgciaaGreatDoorMi04
set_option maxRecDepth 100000
set_option maxHeartbeats 8000000
namespace Go.Proofs.YtfpgjkbjbbgciaaGreatDoor
open Go.RowKit Sp
def zbf(k:UInt8):Int:=if k=82 then 0 else if k=75 then 1 else 2
def zb5(w:World)(sh:List UInt8):Ending→World→Prop:=fun e w' =>
 (sh=[63]∧e=.returned (.tuple #[.slice none 0 0,.bool false])∧w=w')∨(sh=[]∧e=.returned (.tuple #[.slice none 0 0,.bool true])∧w=w') ∨
 (¬sh=[63]∧¬sh=[]∧e=.returned (.tuple #[.slice (some ⟨w.heap.size,0,none⟩) sh.length sh.length,.bool true])∧w'=w.alloc (.cells (sh.map (fun k=>Value.int .i64 (zbf k))).toArray 225))
theorem zvf(w:World):Calls Tryz.prog 149 #[.string ⟨#[115,101,116]⟩] w (zb5 w [82,75]):=by
 go_enter Tryz.func149,Tryz.ntmps149
 go_wp2
 go_ret2
 exact .inr (.inr ⟨by decide,by decide,rfl,rfl⟩)
theorem zvg(w:World):Calls Tryz.prog 149 #[.string ⟨#[105,110,99]⟩] w (zb5 w [82,75]):=by
 go_enter Tryz.func149,Tryz.ntmps149
 go_wp2
 go_ret2
 exact .inr (.inr ⟨by decide,by decide,rfl,rfl⟩)
theorem zvh(w:World):Calls Tryz.prog 149 #[.string ⟨#[109,111,118]⟩] w (zb5 w [82,82]):=by
 go_enter Tryz.func149,Tryz.ntmps149
 go_wp2
 go_ret2
 exact .inr (.inr ⟨by decide,by decide,rfl,rfl⟩)
theorem zrP(w:World):Calls Tryz.prog 149 #[.string ⟨#[108,111,97,100]⟩] w (zb5 w [82,82]):=by
 go_enter Tryz.func149,Tryz.ntmps149
 go_wp2
 go_ret2
 exact .inr (.inr ⟨by decide,by decide,rfl,rfl⟩)
theorem zpF(w:World):Calls Tryz.prog 149 #[.string ⟨#[115,116,111,114,101]⟩] w (zb5 w [82,82]):=by
 go_enter Tryz.func149,Tryz.ntmps149
 go_wp2
 go_ret2
 exact .inr (.inr ⟨by decide,by decide,rfl,rfl⟩)
theorem zvi(w:World):Calls Tryz.prog 149 #[.string ⟨#[97,100,100]⟩] w (zb5 w [82,82,82]):=by
 go_enter Tryz.func149,Tryz.ntmps149
 go_wp2
 go_ret2
 exact .inr (.inr ⟨by decide,by decide,rfl,rfl⟩)
theorem zvj(w:World):Calls Tryz.prog 149 #[.string ⟨#[115,117,98]⟩] w (zb5 w [82,82,82]):=by
 go_enter Tryz.func149,Tryz.ntmps149
 go_wp2
 go_ret2
 exact .inr (.inr ⟨by decide,by decide,rfl,rfl⟩)
theorem zvk(w:World):Calls Tryz.prog 149 #[.string ⟨#[109,117,108]⟩] w (zb5 w [82,82,82]):=by
 go_enter Tryz.func149,Tryz.ntmps149
 go_wp2
 go_ret2
 exact .inr (.inr ⟨by decide,by decide,rfl,rfl⟩)
theorem zrQ(w:World):Calls Tryz.prog 149 #[.string ⟨#[114,101,97,100]⟩] w (zb5 w [82]):=by
 go_enter Tryz.func149,Tryz.ntmps149
 go_wp2
 go_ret2
 exact .inr (.inr ⟨by decide,by decide,rfl,rfl⟩)
theorem zpG(w:World):Calls Tryz.prog 149 #[.string ⟨#[119,114,105,116,101]⟩] w (zb5 w [82]):=by
 go_enter Tryz.func149,Tryz.ntmps149
 go_wp2
 go_ret2
 exact .inr (.inr ⟨by decide,by decide,rfl,rfl⟩)
theorem zrR(w:World):Calls Tryz.prog 149 #[.string ⟨#[106,117,109,112]⟩] w (zb5 w [78]):=by
 go_enter Tryz.func149,Tryz.ntmps149
 go_wp2
 go_ret2
 exact .inr (.inr ⟨by decide,by decide,rfl,rfl⟩)
theorem zrS(w:World):Calls Tryz.prog 149 #[.string ⟨#[99,97,108,108]⟩] w (zb5 w [78]):=by
 go_enter Tryz.func149,Tryz.ntmps149
 go_wp2
 go_ret2
 exact .inr (.inr ⟨by decide,by decide,rfl,rfl⟩)
theorem zrT(w:World):Calls Tryz.prog 149 #[.string ⟨#[108,101,115,115]⟩] w (zb5 w [82,82,78]):=by
 go_enter Tryz.func149,Tryz.ntmps149
 go_wp2
 go_ret2
 exact .inr (.inr ⟨by decide,by decide,rfl,rfl⟩)
theorem zrU(w:World):Calls Tryz.prog 149 #[.string ⟨#[115,97,109,101]⟩] w (zb5 w [82,82,78]):=by
 go_enter Tryz.func149,Tryz.ntmps149
 go_wp2
 go_ret2
 exact .inr (.inr ⟨by decide,by decide,rfl,rfl⟩)
theorem zrV(w:World):Calls Tryz.prog 149 #[.string ⟨#[98,97,99,107]⟩] w (zb5 w []):=by
 go_enter Tryz.func149,Tryz.ntmps149
 go_wp2
 go_ret2
 exact .inr (.inl ⟨rfl,rfl,rfl⟩)
theorem zrW(w:World):Calls Tryz.prog 149 #[.string ⟨#[115,116,111,112]⟩] w (zb5 w []):=by
 go_enter Tryz.func149,Tryz.ntmps149
 go_wp2
 go_ret2
 exact .inr (.inl ⟨rfl,rfl,rfl⟩)
theorem zrX(s:ByteArray)(w:World)(h0:(s.toList == [115,101,116])=false)(h1:(s.toList == [105,110,99])=false)(h2:(s.toList == [109,111,118])=false)(h3:(s.toList == [108,111,97,100])=false)(h4:(s.toList == [115,116,111,114,101])=false)(h5:(s.toList == [97,100,100])=false)(h6:(s.toList == [115,117,98])=false)(h7:(s.toList == [109,117,108])=false)(h8:(s.toList == [114,101,97,100])=false)(h9:(s.toList == [119,114,105,116,101])=false)(h10:(s.toList == [106,117,109,112])=false)(h11:(s.toList == [99,97,108,108])=false)(h12:(s.toList == [108,101,115,115])=false)(h13:(s.toList == [115,97,109,101])=false)(h14:(s.toList == [98,97,99,107])=false)(h15:(s.toList == [115,116,111,112])=false):
  Calls Tryz.prog 149 #[.string s] w (zb5 w [63]):=by
 go_enter Tryz.func149,Tryz.ntmps149
 go_wp2
 go_ret2
 exact .inl ⟨rfl,rfl,rfl⟩
theorem zoA(s:ByteArray)(h0:(s.toList == [115,101,116])=false)(h1:(s.toList == [105,110,99])=false)(h2:(s.toList == [109,111,118])=false)(h3:(s.toList == [108,111,97,100])=false)(h4:(s.toList == [115,116,111,114,101])=false)(h5:(s.toList == [97,100,100])=false)(h6:(s.toList == [115,117,98])=false)(h7:(s.toList == [109,117,108])=false)(h8:(s.toList == [114,101,97,100])=false)(h9:(s.toList == [119,114,105,116,101])=false)(h10:(s.toList == [106,117,109,112])=false)(h11:(s.toList == [99,97,108,108])=false)(h12:(s.toList == [108,101,115,115])=false)(h13:(s.toList == [115,97,109,101])=false)(h14:(s.toList == [98,97,99,107])=false)(h15:(s.toList == [115,116,111,112])=false):zaa s=[63]:=by
 simp only [zaa,isW,h0,h1,h2,h3,h4,h5,h6,h7,h8,h9,h10,h11,h12,h13,h14,h15]
 simp
theorem zhJ:zaa ⟨#[115,101,116]⟩=[82,75]:=by kernel_rfl
theorem zhK:zaa ⟨#[105,110,99]⟩=[82,75]:=by kernel_rfl
theorem zhL:zaa ⟨#[109,111,118]⟩=[82,82]:=by kernel_rfl
theorem zgS:zaa ⟨#[108,111,97,100]⟩=[82,82]:=by kernel_rfl
theorem zfI:zaa ⟨#[115,116,111,114,101]⟩=[82,82]:=by kernel_rfl
theorem zhM:zaa ⟨#[97,100,100]⟩=[82,82,82]:=by kernel_rfl
theorem zhN:zaa ⟨#[115,117,98]⟩=[82,82,82]:=by kernel_rfl
theorem zhO:zaa ⟨#[109,117,108]⟩=[82,82,82]:=by kernel_rfl
theorem zgT:zaa ⟨#[114,101,97,100]⟩=[82]:=by kernel_rfl
theorem zfJ:zaa ⟨#[119,114,105,116,101]⟩=[82]:=by kernel_rfl
theorem zgU:zaa ⟨#[106,117,109,112]⟩=[78]:=by kernel_rfl
theorem zgV:zaa ⟨#[99,97,108,108]⟩=[78]:=by kernel_rfl
theorem zgW:zaa ⟨#[108,101,115,115]⟩=[82,82,78]:=by kernel_rfl
theorem zgX:zaa ⟨#[115,97,109,101]⟩=[82,82,78]:=by kernel_rfl
theorem zgY:zaa ⟨#[98,97,99,107]⟩=[]:=by kernel_rfl
theorem zgZ:zaa ⟨#[115,116,111,112]⟩=[]:=by kernel_rfl
theorem zvl(s:ByteArray)(w:World):Calls Tryz.prog 149 #[.string s] w (zb5 w (zaa s)):=by
 cases h0:(s.toList == [115,101,116]) with
 | true=>rw [zaC s _ h0,zhJ];exact zvf w
 | false =>
 cases h1:(s.toList == [105,110,99]) with
 | true=>rw [zaC s _ h1,zhK];exact zvg w
 | false =>
 cases h2:(s.toList == [109,111,118]) with
 | true=>rw [zaC s _ h2,zhL];exact zvh w
 | false =>
 cases h3:(s.toList == [108,111,97,100]) with
 | true=>rw [zaC s _ h3,zgS];exact zrP w
 | false =>
 cases h4:(s.toList == [115,116,111,114,101]) with
 | true=>rw [zaC s _ h4,zfI];exact zpF w
 | false =>
 cases h5:(s.toList == [97,100,100]) with
 | true=>rw [zaC s _ h5,zhM];exact zvi w
 | false =>
 cases h6:(s.toList == [115,117,98]) with
 | true=>rw [zaC s _ h6,zhN];exact zvj w
 | false =>
 cases h7:(s.toList == [109,117,108]) with
 | true=>rw [zaC s _ h7,zhO];exact zvk w
 | false =>
 cases h8:(s.toList == [114,101,97,100]) with
 | true=>rw [zaC s _ h8,zgT];exact zrQ w
 | false =>
 cases h9:(s.toList == [119,114,105,116,101]) with
 | true=>rw [zaC s _ h9,zfJ];exact zpG w
 | false =>
 cases h10:(s.toList == [106,117,109,112]) with
 | true=>rw [zaC s _ h10,zgU];exact zrR w
 | false =>
 cases h11:(s.toList == [99,97,108,108]) with
 | true=>rw [zaC s _ h11,zgV];exact zrS w
 | false =>
 cases h12:(s.toList == [108,101,115,115]) with
 | true=>rw [zaC s _ h12,zgW];exact zrT w
 | false =>
 cases h13:(s.toList == [115,97,109,101]) with
 | true=>rw [zaC s _ h13,zgX];exact zrU w
 | false =>
 cases h14:(s.toList == [98,97,99,107]) with
 | true=>rw [zaC s _ h14,zgY];exact zrV w
 | false =>
 cases h15:(s.toList == [115,116,111,112]) with
 | true=>rw [zaC s _ h15,zgZ];exact zrW w
 | false =>
 rw [zoA s h0 h1 h2 h3 h4 h5 h6 h7 h8 h9 h10 h11 h12 h13 h14 h15]
 exact zrX s w h0 h1 h2 h3 h4 h5 h6 h7 h8 h9 h10 h11 h12 h13 h14 h15
structure Back8(W:World)(b:Nat):Prop where
 f0:∀ x0,(W.setCell ⟨b,0,none⟩ x0).cell? ⟨b,0,none⟩=some x0
 f1:∀ x0 x1,((W.setCell ⟨b,0,none⟩ x0).setCell ⟨b,1,none⟩ x1).cell? ⟨b,1,none⟩=some x1
 f2:∀ x0 x1 x2,(((W.setCell ⟨b,0,none⟩ x0).setCell ⟨b,1,none⟩ x1).setCell ⟨b,2,none⟩ x2).cell? ⟨b,2,none⟩=some x2
 f3:∀ x0 x1 x2 x3,((((W.setCell ⟨b,0,none⟩ x0).setCell ⟨b,1,none⟩ x1).setCell ⟨b,2,none⟩ x2).setCell ⟨b,3,none⟩ x3).cell? ⟨b,3,none⟩=some x3
 f4:∀ x0 x1 x2 x3 x4,(((((W.setCell ⟨b,0,none⟩ x0).setCell ⟨b,1,none⟩ x1).setCell ⟨b,2,none⟩ x2).setCell ⟨b,3,none⟩ x3).setCell ⟨b,4,none⟩ x4).cell? ⟨b,4,none⟩=some x4
 f5:∀ x0 x1 x2 x3 x4 x5,((((((W.setCell ⟨b,0,none⟩ x0).setCell ⟨b,1,none⟩ x1).setCell ⟨b,2,none⟩ x2).setCell ⟨b,3,none⟩ x3).setCell ⟨b,4,none⟩ x4).setCell ⟨b,5,none⟩ x5).cell? ⟨b,5,none⟩=some x5
 f6:∀ x0 x1 x2 x3 x4 x5 x6,(((((((W.setCell ⟨b,0,none⟩ x0).setCell ⟨b,1,none⟩ x1).setCell ⟨b,2,none⟩ x2).setCell ⟨b,3,none⟩ x3).setCell ⟨b,4,none⟩ x4).setCell ⟨b,5,none⟩ x5).setCell ⟨b,6,none⟩ x6).cell? ⟨b,6,none⟩=some x6
 f7:∀ x0 x1 x2 x3 x4 x5 x6 x7,((((((((W.setCell ⟨b,0,none⟩ x0).setCell ⟨b,1,none⟩ x1).setCell ⟨b,2,none⟩ x2).setCell ⟨b,3,none⟩ x3).setCell ⟨b,4,none⟩ x4).setCell ⟨b,5,none⟩ x5).setCell ⟨b,6,none⟩ x6).setCell ⟨b,7,none⟩ x7).cell? ⟨b,7,none⟩=some x7
theorem zpH{W:World}{b:Nat}(h:∀ k,k<8→∃ x,W.cell? ⟨b,k,none⟩=some x):Back8 W b:=by
 constructor
 ·intro x0
  obtain⟨y,hy⟩:=h 0 (by omega)
  refine World.cell?_setCell_same (u:=y) _ _ _ ?_
  exact hy
 ·intro x0 x1
  obtain⟨y,hy⟩:=h 1 (by omega)
  refine World.cell?_setCell_same (u:=y) _ _ _ ?_
  rw [World.cell?_setCell_other]
  ·exact hy
  all_goals simp
 ·intro x0 x1 x2
  obtain⟨y,hy⟩:=h 2 (by omega)
  refine World.cell?_setCell_same (u:=y) _ _ _ ?_
  rw [World.cell?_setCell_other]
  rw [World.cell?_setCell_other]
  ·exact hy
  all_goals simp
 ·intro x0 x1 x2 x3
  obtain⟨y,hy⟩:=h 3 (by omega)
  refine World.cell?_setCell_same (u:=y) _ _ _ ?_
  rw [World.cell?_setCell_other]
  rw [World.cell?_setCell_other]
  rw [World.cell?_setCell_other]
  ·exact hy
  all_goals simp
 ·intro x0 x1 x2 x3 x4
  obtain⟨y,hy⟩:=h 4 (by omega)
  refine World.cell?_setCell_same (u:=y) _ _ _ ?_
  rw [World.cell?_setCell_other]
  rw [World.cell?_setCell_other]
  rw [World.cell?_setCell_other]
  rw [World.cell?_setCell_other]
  ·exact hy
  all_goals simp
 ·intro x0 x1 x2 x3 x4 x5
  obtain⟨y,hy⟩:=h 5 (by omega)
  refine World.cell?_setCell_same (u:=y) _ _ _ ?_
  rw [World.cell?_setCell_other]
  rw [World.cell?_setCell_other]
  rw [World.cell?_setCell_other]
  rw [World.cell?_setCell_other]
  rw [World.cell?_setCell_other]
  ·exact hy
  all_goals simp
 ·intro x0 x1 x2 x3 x4 x5 x6
  obtain⟨y,hy⟩:=h 6 (by omega)
  refine World.cell?_setCell_same (u:=y) _ _ _ ?_
  rw [World.cell?_setCell_other]
  rw [World.cell?_setCell_other]
  rw [World.cell?_setCell_other]
  rw [World.cell?_setCell_other]
  rw [World.cell?_setCell_other]
  rw [World.cell?_setCell_other]
  ·exact hy
  all_goals simp
 ·intro x0 x1 x2 x3 x4 x5 x6 x7
  obtain⟨y,hy⟩:=h 7 (by omega)
  refine World.cell?_setCell_same (u:=y) _ _ _ ?_
  rw [World.cell?_setCell_other]
  rw [World.cell?_setCell_other]
  rw [World.cell?_setCell_other]
  rw [World.cell?_setCell_other]
  rw [World.cell?_setCell_other]
  rw [World.cell?_setCell_other]
  rw [World.cell?_setCell_other]
  ·exact hy
  all_goals simp
theorem new8{w w1:World}{c:Array Value}{ty:TypeId}(hc:c.size=8)(hb:Below (w.alloc (.cells c ty)).heap.size (w.alloc (.cells c ty)) w1):∀ k,k<8→∃ x,w1.cell? ⟨w.heap.size,k,none⟩=some x:=by
 intro k hk
 rw [hb.cell (p:=⟨w.heap.size,k,none⟩) (by simp)]
 exact⟨c[k]'(by omega),(World.cell?_alloc_new (w:=w) c ty k).trans (Array.getElem?_eq_getElem (by omega))⟩
theorem zjx{B b:Nat}{a w:World}(h:Below B a w)(hb:B≤b)(x0 x1 x2 x3 x4 x5 x6 x7:Value):Below B a ((((((((w.setCell ⟨b,0,none⟩ x0).setCell ⟨b,1,none⟩ x1).setCell ⟨b,2,none⟩ x2).setCell ⟨b,3,none⟩ x3).setCell ⟨b,4,none⟩ x4).setCell ⟨b,5,none⟩ x5).setCell ⟨b,6,none⟩ x6).setCell ⟨b,7,none⟩ x7) :=
 (((((((h.setCell hb _).setCell hb _).setCell hb _).setCell hb _).setCell hb _).setCell hb _).setCell hb _).setCell hb _
abbrev stm(sort line:Int)(word:ByteArray)(a b c n:Int)(nm:ByteArray):Value:=.agg #[.int .i64 sort,.int .i64 line,.string word,.int .i64 a,.int .i64 b,.int .i64 c,.int .i64 n,.string nm]
def WordsIn(w:World)(g:Nat)(l:List ByteArray):Prop:=∀ j (hj:j<l.length),w.cell? ⟨g,j,none⟩=some (.string l[j])
theorem zpI(w:World)(g cap:Nat)(l:List ByteArray)(line:Int)(hl:WordsIn w g l)(hsz:∀ x∈l,x.size≤1048576)(hn:l.length≤1048577)(h:¬(l.length=2∧za5 (l.getLast?.getD ByteArray.empty)=true)):
  Calls Tryz.prog 127 #[.slice (some ⟨g,0,none⟩) l.length cap,.int .i64 line] w fun e w'=>e=zak 1 line∧Below w.heap.size w w':=by
 by_cases h2:l.length=2
 ·match l,h2 with
  | [x,y],_ =>
   have hy:=hsz y (by simp)
   have hnm:za5 y=false:=by simpa using h
   have hc1:=hl 1 (by simp)
   simp only [List.getElem_cons_succ,List.getElem_cons_zero] at hc1
   have hlt:g<w.heap.size:=by
    have:=World.block_lt_of_cell? w _ hc1;simpa using this
   go_enter Tryz.func127,Tryz.ntmps127
   go_wp2_with(first|(go_at_call 147;refine(zer y _ hy).mono ?_;rintro e w1 ⟨rfl,hb⟩)|(go_at_call 79;refine(zay _ _ _).mono ?_;rintro e wx ⟨rfl,hww⟩;have h2:=hww.symm;subst h2))
   exact⟨rfl,rfl,((Below.refl _ _).alloc (Nat.le_refl _) _).trans (hb.mono (by simp))⟩
 ·have hne:((l.length:Int) != 2)=true:=by simp;omega
  go_enter Tryz.func127,Tryz.ntmps127
  go_wp2_with(first|(go_at_call 79;refine(zay _ _ _).mono ?_;rintro e wx ⟨rfl,hww⟩;have h2:=hww.symm;subst h2))
  exact⟨rfl,rfl,(Below.refl _ _).alloc (Nat.le_refl _) _⟩
theorem zmU(w:World)(g cap:Nat)(x y:ByteArray)(line:Int)(hl:WordsIn w g [x,y])(hy:y.size≤1048576)(hnm:za5 y=true):
  Calls Tryz.prog 127 #[.slice (some ⟨g,0,none⟩) 2 cap,.int .i64 line] w fun e w'=>e=.returned (stm 0 line ⟨#[]⟩ 0 0 0 0 y)∧Below w.heap.size w w':=by
 have hc1:=hl 1 (by simp)
 simp only [List.getElem_cons_succ,List.getElem_cons_zero] at hc1
 have hlt:g<w.heap.size:=by
  have:=World.block_lt_of_cell? w _ hc1;simpa using this
 have hne:¬w.heap.size=g:=by omega
 go_enter Tryz.func127,Tryz.ntmps127
 go_wp2_with(first|(go_at_call 147;refine(zer y _ hy).mono ?_;rintro e w1 ⟨rfl,hb⟩;obtain⟨hc,hf⟩:=zhF hb))
 obtain⟨f0,f1,f2,f3,f4,f5,f6,f7⟩:=zpH (new8 rfl hb)
 refine bodyPost_ret (v:=stm 0 line ⟨#[]⟩ 0 0 0 0 y) (by simp [results,Tryz.results127,go_sem,f0,f1,f2,f3,f4,f5,f6,f7]) rfl ⟨rfl,?_⟩
 exact zjx (((Below.refl _ _).alloc (Nat.le_refl _) _).trans (hb.mono (by simp))) (Nat.le_refl _) _ _ _ _ _ _ _ _
theorem zpJ(w:World)(ao:Option Addr)(n cap:Nat)(x:ByteArray)(line:Int)(hx:x.size≤1048576)(hn:n≤1048577)(h:¬(n=1∧za5 x=true)):
  Calls Tryz.prog 129 #[.string x,.slice ao n cap,.int .i64 line] w fun e w'=>e=zak 1 line∧Below w.heap.size w w':=by
 by_cases h2:n=1
 ·have hnm:za5 x=false:=by simpa [h2] using h
  subst h2
  go_enter Tryz.func129,Tryz.ntmps129
  go_wp2_with(first|(go_at_call 147;refine(zer x _ hx).mono ?_;rintro e w1 ⟨rfl,hb⟩)|(go_at_call 79;refine(zay _ _ _).mono ?_;rintro e wx ⟨rfl,hww⟩;have h2:=hww.symm;subst h2))
  exact⟨rfl,rfl,((Below.refl _ _).alloc (Nat.le_refl _) _).trans (hb.mono (by simp))⟩
 ·have hne:((n:Int) != 1)=true:=by simp;omega
  go_enter Tryz.func129,Tryz.ntmps129
  go_wp2_with(first|(go_at_call 79;refine(zay _ _ _).mono ?_;rintro e wx ⟨rfl,hww⟩;have h2:=hww.symm;subst h2))
  exact⟨rfl,rfl,(Below.refl _ _).alloc (Nat.le_refl _) _⟩
theorem zmV(w:World)(ao:Option Addr)(cap:Nat)(x:ByteArray)(line:Int)(hx:x.size≤1048576)(hnm:za5 x=true):
  Calls Tryz.prog 129 #[.string x,.slice ao 1 cap,.int .i64 line] w fun e w'=>e=.returned (stm 1 line ⟨#[]⟩ 0 0 0 0 x)∧Below w.heap.size w w':=by
 go_enter Tryz.func129,Tryz.ntmps129
 go_wp2_with(first|(go_at_call 147;refine(zer x _ hx).mono ?_;rintro e w1 ⟨rfl,hb⟩;obtain⟨hc,hf⟩:=zhF hb))
 obtain⟨f0,f1,f2,f3,f4,f5,f6,f7⟩:=zpH (new8 rfl hb)
 refine bodyPost_ret (v:=stm 1 line ⟨#[]⟩ 0 0 0 0 x) (by simp [results,Tryz.results129,go_sem,f0,f1,f2,f3,f4,f5,f6,f7]) rfl ⟨rfl,?_⟩
 exact zjx (((Below.refl _ _).alloc (Nat.le_refl _) _).trans (hb.mono (by simp))) (Nat.le_refl _) _ _ _ _ _ _ _ _
structure StmAt(w:World)(q:Nat)(line:Int)(word nm:ByteArray)(r0 r1 r2 n:Int):Prop where
 c0:w.cell? ⟨q,0,none⟩=some (.int .i64 2)
 c1:w.cell? ⟨q,1,none⟩=some (.int .i64 line)
 c2:w.cell? ⟨q,2,none⟩=some (.string word)
 c3:w.cell? ⟨q,3,none⟩=some (.int .i64 r0)
 c4:w.cell? ⟨q,4,none⟩=some (.int .i64 r1)
 c5:w.cell? ⟨q,5,none⟩=some (.int .i64 r2)
 c6:w.cell? ⟨q,6,none⟩=some (.int .i64 n)
 c7:w.cell? ⟨q,7,none⟩=some (.string nm)
 fz:∀ o,w.frozen? ⟨q,o,none⟩=false
end Go.Proofs.YtfpgjkbjbbgciaaGreatDoor
