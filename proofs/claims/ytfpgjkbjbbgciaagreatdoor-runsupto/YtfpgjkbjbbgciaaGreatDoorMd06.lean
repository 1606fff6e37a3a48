import Derived.Test.YtfpgjkbjbbgciaaGreatDoorMd03
import Derived.Deep.Light
set_option maxRecDepth 100000
set_option maxHeartbeats 8000000
namespace Go.Proofs.YtfpgjkbjbbgciaaGreatDoor
open Go.RowKit Sp
structure LinesIn(w:World)(g:Nat)(L:List Said):Prop where
 kind:∀ i (h:i<L.length),w.cell? ⟨g,i*2,none⟩=some (.int .u8 L[i].kind)
 words:∀ i (h:i<L.length),0<L[i].kept.length→∃ b c,w.cell? ⟨g,i*2+1,none⟩=some (.slice (some ⟨b,0,none⟩) L[i].kept.length c)∧∀ j (hj:j<L[i].kept.length),w.cell? ⟨b,j,none⟩=some (.string L[i].kept[j])
 wf:∀ i (h:i<L.length),Wf L[i]
theorem zd8{q:Said}(h:Wf q):0≤q.kind∧q.kind≤255:=by unfold Wf at h;omega
theorem zr8(L:List Said)(g cap k:Nat)(w:World)(hL:LinesIn w g L)(hn:L.length≤1048577)(hk:k<L.length):
  Calls Tryz.prog 107 #[.slice (some ⟨g,0,none⟩) L.length cap,.int .i64 (k:Int)] w fun e w'=>e=.returned (.int .i64 (zcm L k))∧w'=w:=by
 go_enter Tryz.func107,Tryz.ntmps107
 go_wp2
 go_loop [1] (fun t=>∃ j:Nat,j≤k+1∧t=.int .i64 ((j:Int)-1)∧(j=0∧zcm L k=-1∨1≤j∧zcm L k=zcm L (j-1))) (fun t=>(intOf t+1).toNat)
 case atStart=>exact⟨k+1,by omega,by go_num,.inr ⟨by omega,rfl⟩⟩
 case round =>
  obtain⟨j,hj,rfl,hR⟩:=hrel
  have HR:Hid (j=0∧zcm L k=-1∨1≤j∧zcm L k=zcm L (j-1)):=hR
  clear hR
  by_cases h0:j=0
  ·have HQ:Hid (zcm L k=-1):=by rcases HR.out with h|h;exact h.2;omega
   subst h0
   go_wp2
   go_ret
   exact⟨zbX (by rw [HQ.out]),rfl⟩
  ·obtain⟨m,rfl⟩:∃ m,j=m+1:=⟨j-1,by omega⟩
   have HQ:Hid (zcm L k=zcm L m):=by rcases HR.out with h|h;omega;exact h.2
   clear HR
   have hm:m<L.length:=by omega
   have hc:=hL.kind m hm
   have hb:=zd8 (hL.wf m hm)
   have ec:((m+1:Nat):Int)-1=(m:Int):=by omega
   rw [ec]
   cases h102:(L[m].kind != 102) with
   | false =>
    have HZ:Hid (zcm L m=m):=zfC L m hm (by simpa using h102)
    go_wp2
    go_ret
    exact⟨zbX (by rw [HQ.out,HZ.out]),rfl⟩
   | true =>
    go_wp2
    go_round
    case rel =>
     refine⟨m,by omega,rfl,?_⟩
     cases m with
     | zero=>exact .inl ⟨rfl,HQ.out.trans (zpn L hm (by simpa using h102))⟩
     | succ m=>exact .inr ⟨by omega,HQ.out.trans (zdH L m hm (by simpa using h102))⟩
    case measure=>simp [intOf]
theorem zcE(q:Said)(i:Nat)(h:i<q.kept.length):q.word i=q.kept[i]:=by
 unfold Said.word;rw [List.getElem?_eq_getElem h];rfl
theorem wf_f{q:Said}(h:Wf q)(h':(q.kind == 102)=true):q.kept.length=2:=by
 rw [beq_iff_eq] at h';unfold Wf at h;omega
theorem wf_l{q:Said}(h:Wf q)(h':(q.kind == 108)=true):q.kept.length=1:=by
 rw [beq_iff_eq] at h';unfold Wf at h;omega
theorem wf_i{q:Said}(h:Wf q)(h':(q.kind == 105)=true):1≤q.kept.length∧q.kept.length≤4:=by
 rw [beq_iff_eq] at h';unfold Wf at h;omega
theorem zw1(q:Said)(x:ByteArray)(h:(q.kind == 102)=false):isFn q x=false:=by
 simp at h;simp [isFn,h]
theorem zw2(q:Said)(x:ByteArray)(h:(q.kind == 102)=true):isFn q x=eqW (q.word 1) x:=by
 simp at h;simp [isFn,h]
theorem zuw(q:Said)(x:ByteArray)(h:(q.kind == 108)=false):zcR q x=false:=by
 simp at h;simp [zcR,h]
theorem zux(q:Said)(x:ByteArray)(h:(q.kind == 108)=true):zcR q x=eqW (q.word 0) x:=by
 simp at h;simp [zcR,h]
theorem znS(L:List Said)(g cap:Nat)(x:ByteArray)(w:World)(hL:LinesIn w g L)(hn:L.length≤1048577):
  Calls Tryz.prog 77 #[.slice (some ⟨g,0,none⟩) L.length cap,.string x] w fun e w'=>e=.returned (.int .i64 (zaJ L x 0))∧w'=w:=by
 go_enter Tryz.func77,Tryz.ntmps77
 go_wp2
 go_loop [5] (fun t=>∃ j:Nat,j≤L.length∧t=.int .i64 (j:Int)∧zaJ L x 0=zaJ L x j) (fun t=>L.length-(intOf t).toNat)
 case atStart=>exact⟨0,by omega,rfl,rfl⟩
 case round =>
  obtain⟨j,hj,rfl,hR⟩:=hrel
  have HR:Hid (zaJ L x 0=zaJ L x j):=hR
  clear hR
  by_cases hlt:j<L.length
  ·have hc:=hL.kind j hlt
   have hb:=zd8 (hL.wf j hlt)
   cases h102:(L[j].kind == 102) with
   | false =>
    have HQ:Hid (zaJ L x 0=zaJ L x (j+1)):=HR.out.trans (zdf L x j hlt (zw1 _ x h102))
    go_wp2
    go_round
    case rel=>exact⟨j+1,by omega,by go_num,HQ.out⟩
    case measure=>simp [intOf];omega
   | true =>
    have h2:=wf_f (hL.wf j hlt) h102
    have hlen:1<L[j].kept.length:=by omega
    obtain⟨b,c,hw,hwc⟩:=hL.words j hlt (by omega)
    have hw1:=hwc 1 hlen
    clear hwc
    have hfe:=zw2 L[j] x h102
    rw [zcE _ 1 hlen] at hfe
    have HF:Hid (isFn L[j] x=eqW (L[j].kept[1]) x):=hfe
    clear hfe
    rw [h2] at hw
    cases heq:((L[j].kept[1]'hlen).toList == x.toList) with
    | true =>
     have HQ:Hid (zaJ L x 0=j):=HR.out.trans (zds L x j hlt (HF.out.trans heq))
     go_wp2
     go_ret
     exact⟨zbX (by rw [HQ.out]),rfl⟩
    | false =>
     have HQ:Hid (zaJ L x 0=zaJ L x (j+1)):=HR.out.trans (zdf L x j hlt (HF.out.trans heq))
     go_wp2
     go_round
     case rel=>exact⟨j+1,by omega,by go_num,HQ.out⟩
     case measure=>simp [intOf];omega
  ·have HQ:Hid (zaJ L x 0=-1):=HR.out.trans (zeN L x j hlt)
   go_wp2
   go_ret
   exact⟨zbX (by rw [HQ.out]),rfl⟩
theorem zfn(L:List Said)(g cap k:Nat)(x:ByteArray)(w:World)(hL:LinesIn w g L)(hn:L.length≤1048577)(hk:k<L.length):
  Calls Tryz.prog 78 #[.slice (some ⟨g,0,none⟩) L.length cap,.int .i64 (k:Int),.string x] w fun e w'=>e=.returned (.int .i64 (zbZ L k x))∧w'=w:=by
 have ho:=zuv L k
 obtain⟨m,hm⟩:∃ m:Nat,zcm L k+1=(m:Int):=⟨(zcm L k+1).toNat,by omega⟩
 have HM:Hid (zcm L k+1=(m:Int)):=hm
 have HL:Hid (zbZ L k x=zaU L x m):=by unfold Hid zbZ;rw [hm];rfl
 have hml:m≤L.length:=by omega
 go_enter Tryz.func78,Tryz.ntmps78
 go_wp2_with(go_at_call 107;refine(zr8 L g cap k _ hL hn hk).mono ?_;rintro e w' ⟨rfl,rfl⟩)
 go_loop [7] (fun t=>∃ j:Nat,j≤L.length∧t=.int .i64 (j:Int)∧zbZ L k x=zaU L x j) (fun t=>L.length-(intOf t).toNat)
 case atStart=>exact⟨m,hml,by first|rfl|rw [HM.out],HL.out⟩
 case round =>
  obtain⟨j,hj,rfl,hR⟩:=hrel
  have HR:Hid (zbZ L k x=zaU L x j):=hR
  clear hR hm HL HM
  by_cases hlt:j<L.length
  ·have hc:=hL.kind j hlt
   have hb:=zd8 (hL.wf j hlt)
   cases h102:(L[j].kind != 102) with
   | false =>
    have HQ:Hid (zbZ L k x=-1):=HR.out.trans (zfB L x j hlt (by simpa using h102))
    go_wp2
    go_ret
    exact⟨zbX (by rw [HQ.out]),rfl⟩
   | true =>
    have hnf:¬L[j].kind=102:=by simpa using h102
    have HNF:Hid (¬L[j].kind=102):=hnf
    clear hnf
    cases h108:(L[j].kind == 108) with
    | false =>
     have HQ:Hid (zbZ L k x=zaU L x (j+1)):=HR.out.trans (zbS L x j hlt HNF.out (zuw _ x h108))
     go_wp2
     go_round
     case rel=>exact⟨j+1,by omega,by go_num,HQ.out⟩
     case measure=>simp [intOf];omega
    | true =>
     have h2:=wf_l (hL.wf j hlt) h108
     have hlen:0<L[j].kept.length:=by omega
     obtain⟨b,c,hw,hwc⟩:=hL.words j hlt (by omega)
     have hw1:=hwc 0 hlen
     clear hwc
     have hfe:=zux L[j] x h108
     rw [zcE _ 0 hlen] at hfe
     have HF:Hid (zcR L[j] x=eqW (L[j].kept[0]) x):=hfe
     clear hfe
     rw [h2] at hw
     cases heq:((L[j].kept[0]'hlen).toList == x.toList) with
     | true =>
      have HQ:Hid (zbZ L k x=j):=HR.out.trans (zcS L x j hlt HNF.out (HF.out.trans heq))
      go_wp2
      go_ret
      exact⟨zbX (by rw [HQ.out]),rfl⟩
     | false =>
      have HQ:Hid (zbZ L k x=zaU L x (j+1)):=HR.out.trans (zbS L x j hlt HNF.out (HF.out.trans heq))
      go_wp2
      go_round
      case rel=>exact⟨j+1,by omega,by go_num,HQ.out⟩
      case measure=>simp [intOf];omega
  ·have HQ:Hid (zbZ L k x=-1):=HR.out.trans (zdV L x j hlt)
   go_wp2
   go_ret
   exact⟨zbX (by rw [HQ.out]),rfl⟩
theorem zdU{W w1:World}{B:Nat}(hb:Below B W w1):(∀ b o,b<B→w1.cell? ⟨b,o,none⟩=W.cell? ⟨b,o,none⟩)∧(∀ b o,b<B→w1.frozen? ⟨b,o,none⟩=W.frozen? ⟨b,o,none⟩) :=
 ⟨fun b o h=>hb.cell (p:=⟨b,o,none⟩) h,fun b o h=>hb.frozen (p:=⟨b,o,none⟩) h⟩
theorem znR{w:World}{B:Nat}{v:Value}{l:List ByteArray}(h:w.ownsRow B 9 1 v l.length (l.map Value.string))(hl:0<l.length):
  ∃ g cap,v=.slice (some ⟨g,0,none⟩) l.length cap∧l.length≤cap∧cap≤maxLen∧B≤g∧g<w.heap.size∧∀ j (hj:j<l.length),w.cell? ⟨g,j,none⟩=some (.string l[j]):=by
 rcases h.2 with ⟨_,h2⟩|⟨g,cap,cur,hv,hg,hh,hc,hm,hs,hx⟩
 ·simp at h2;subst h2;simp at hl
 ·refine⟨g,cap,hv,hc,hm,hg,(Array.getElem?_eq_some_iff.1 hh).1,fun j hj=>?_⟩
  subst hv
  rw [World.ownsRow.cellAt h j (by omega)]
  simp [hj]
theorem ziQ(s:ByteArray)(w:World)(hs:s.size≤1048576)(l:List ByteArray)(hl:Hid (words s=l))(h0:0<l.length):
  Calls Tryz.prog 72 #[.string s] w fun e w'=>∃ g cap,e=.returned (.slice (some ⟨g,0,none⟩) l.length cap)∧l.length≤cap∧cap≤maxLen∧w.heap.size≤g∧g<w'.heap.size∧(∀ j (hj:j<l.length),w'.cell? ⟨g,j,none⟩=some (.string l[j]))∧w'.ownsRow w.heap.size 9 1 (.slice (some ⟨g,0,none⟩) l.length cap) l.length (l.map Value.string)∧Below w.heap.size w w':=by
 refine(zhv s w hs).mono ?_
 rintro e w' ⟨v,rfl,hown,hb⟩
 rw [hl.out] at hown
 obtain⟨g,cap,rfl,h1,h2,h3,h4,h5⟩:=znR hown h0
 exact⟨g,cap,rfl,h1,h2,h3,h4,h5,hown,hb⟩
theorem zpm(s:ByteArray)(w:World)(hs:s.size≤1048576)(hl:Hid (words s=[])):
  Calls Tryz.prog 72 #[.string s] w fun e w'=>∃ ao cap,e=.returned (.slice ao 0 cap)∧Below w.heap.size w w':=by
 refine(zhv s w hs).mono ?_
 rintro e w' ⟨v,rfl,hown,hb⟩
 rw [hl.out] at hown
 rcases hown.2 with ⟨h1,h2⟩|⟨g,cap,cur,hv,r⟩
 ·subst h1;exact⟨none,0,rfl,hb⟩
 ·subst hv;exact⟨_,cap,rfl,hb⟩
def zcl(B:Nat)(w:World)(q:Said):Ending→World→Prop:=fun e w' =>
 ∃ v,e=.returned (.tuple #[.agg #[.int .u8 q.kind,v],.bool q.ok])∧w'.ownsRow B 9 1 v q.kept.length (q.kept.map Value.string)∧Below B w w'
theorem zca{W:World}{b:Nat}{a c:Value}(h0:W.cell? ⟨b,0,none⟩=some a)(h1:W.cell? ⟨b,1,none⟩=some c):
  (∀ x,(W.setCell ⟨b,0,none⟩ x).cell? ⟨b,0,none⟩=some x)∧(∀ x y,((W.setCell ⟨b,0,none⟩ x).setCell ⟨b,1,none⟩ y).cell? ⟨b,1,none⟩=some y):=by
 refine⟨fun x=>World.cell?_setCell_same W _ _ h0,fun x y=>World.cell?_setCell_same (u:=c) _ _ _ ?_⟩
 rw [World.cell?_setCell_other]
 ·exact h1
 ·simp
theorem zwz(s:ByteArray)(w:World)(hs:s.size≤1048576)(hv:zao s 0=false):
  Calls Tryz.prog 46 #[.string s] w (zcl w.heap.size w ⟨0,[],false⟩):=by
 go_enter Tryz.func46,Tryz.ntmps46
 go_wp2_with(first
  | (go_at_call 71;refine(zcd s _ (by omega)).mono ?_;rintro e w' ⟨rfl,rfl⟩)
  | (go_at_call 72;refine(zhv s _ (by omega)).mono ?_;rintro e w1 ⟨v,rfl,hown,hb⟩;obtain⟨hc,hf⟩:=zdU hb))
 have hz:w.heap.size+1<w1.heap.size:=by have:=hb.size;simp at this;omega
 obtain⟨f0,f1⟩:=zca (W:=w1) (b:=w.heap.size) (a:=.int .u8 0) (c:=.slice none 0 0) (by rw [hc _ _ (by simp;omega)];simp) (by rw [hc _ _ (by simp;omega)];simp)
 refine bodyPost_ret (v:=.tuple #[.agg #[.int .u8 0,.slice none 0 0],.bool false]) (by simp [results,Tryz.results46,go_sem,f0,f1]) rfl ⟨_,rfl,World.ownsRow_nil _ _ _ _,?_⟩
 exact(((((Below.refl _ _).alloc (Nat.le_refl _) _).alloc (by simp) _).trans (hb.mono (by simp;omega))).setCell (by simp) _).setCell (by simp) _
theorem zus(s:ByteArray)(w:World)(hs:s.size≤1048576)(hv:zao s 0=true)(hl:Hid (words s=[])):
  Calls Tryz.prog 46 #[.string s] w (zcl w.heap.size w ⟨0,[],true⟩):=by
 go_enter Tryz.func46,Tryz.ntmps46
 go_wp2_with(first
  | (go_at_call 71;refine(zcd s _ (by omega)).mono ?_;rintro e w' ⟨rfl,rfl⟩)
  | (go_at_call 72;refine(zpm s _ (by omega) hl).mono ?_;rintro e w1 ⟨ao,cap,rfl,hb⟩;obtain⟨hc,hf⟩:=zdU hb))
 have hz:w.heap.size+1<w1.heap.size:=by have:=hb.size;simp at this;omega
 obtain⟨f0,f1⟩:=zca (W:=w1) (b:=w.heap.size) (a:=.int .u8 0) (c:=.slice none 0 0) (by rw [hc _ _ (by simp;omega)];simp) (by rw [hc _ _ (by simp;omega)];simp)
 refine bodyPost_ret (v:=.tuple #[.agg #[.int .u8 0,.slice none 0 0],.bool true]) (by simp [results,Tryz.results46,go_sem,f0,f1]) rfl ⟨_,rfl,World.ownsRow_nil _ _ _ _,?_⟩
 exact(((((Below.refl _ _).alloc (Nat.le_refl _) _).alloc (by simp) _).trans (hb.mono (by simp;omega))).setCell (by simp) _).setCell (by simp) _
theorem zb7{w:World}{b b':Nat}{e:TypeId}{size n:Nat}{v:Value}{xs:List Value}(h:w.ownsRow b e size v n xs)(hb:b'≤b):w.ownsRow b' e size v n xs:=by
 refine⟨h.1,?_⟩
 rcases h.2 with h2|⟨g,cap,cur,hv,hg,r⟩
 ·exact .inl h2
 ·exact .inr ⟨g,cap,cur,hv,by omega,r⟩
abbrev zev(w w1:World)(k:Int)(v:Value):World:=(w1.setCell ⟨w.heap.size+1,1,none⟩ v).setCell ⟨w.heap.size+1,0,none⟩ (.int .u8 k)
theorem za7{w w1:World}{k:Int}{v:Value}{o:Nat}{x:Value}(h:w1.cell? ⟨w.heap.size,o,none⟩=some x):(zev w w1 k v).cell? ⟨w.heap.size,o,none⟩=some x:=by
 unfold zev
 rw [World.cell?_setCell_other,World.cell?_setCell_other]
 ·exact h
 ·simp
 ·simp
theorem zcf{w w1:World}{k:Int}{v:Value}{l:List ByteArray}{ok:Bool}(hown:w1.ownsRow (w.heap.size+2) 9 1 v l.length (l.map Value.string))(hb:Below w.heap.size w w1):
  zcl w.heap.size w ⟨k,l,ok⟩ (.returned (.tuple #[.agg #[.int .u8 k,v],.bool ok])) (((zev w w1 k v).setCell ⟨w.heap.size,0,none⟩ (.int .u8 k)).setCell ⟨w.heap.size,1,none⟩ v):=by
 refine⟨v,rfl,zb7 ?_ (Nat.le_add_right _ 2),(((hb.setCell (by simp) _).setCell (by simp) _).setCell (by simp) _).setCell (by simp) _⟩
 exact ownsRow_setCell_below (ownsRow_setCell_below (ownsRow_setCell_below (ownsRow_setCell_below hown (by simp) _) (by simp) _) (by simp) _) (by simp) _
theorem zm2(w:World)(o1 o2:Obj){w1:World}(hb:Below ((w.alloc o1).alloc o2).heap.size ((w.alloc o1).alloc o2) w1):Below w.heap.size w w1 :=
 (((Below.refl _ _).alloc (Nat.le_refl _) _).alloc (by simp) _).trans (hb.mono (by simp;omega))
structure TwoKept(w w':World)(g:Nat):Prop where
 far:w.heap.size+2≤g
 lt:g<w'.heap.size
 below:Below w.heap.size w w'
 c0:w'.cell? ⟨w.heap.size,0,none⟩=some (.int .u8 0)
 c1:w'.cell? ⟨w.heap.size,1,none⟩=some (.slice none 0 0)
 d0:w'.cell? ⟨w.heap.size+1,0,none⟩=some (.int .u8 0)
 d1:w'.cell? ⟨w.heap.size+1,1,none⟩=some (.slice none 0 0)
 e0:w'.frozen? ⟨w.heap.size,0,none⟩=false
 e1:w'.frozen? ⟨w.heap.size,1,none⟩=false
 f0:w'.frozen? ⟨w.heap.size+1,0,none⟩=false
 f1:w'.frozen? ⟨w.heap.size+1,1,none⟩=false
theorem zde(s:ByteArray)(w:World)(hs:s.size≤1048576)(l:List ByteArray)(hl:Hid (words s=l))(h0:0<l.length):
  Calls Tryz.prog 72 #[.string s] ((w.alloc (.cells #[.int .u8 0,.slice none 0 0] 87)).alloc (.cells #[.int .u8 0,.slice none 0 0] 87)) fun e w'=>∃ g cap,e=.returned (.slice (some ⟨g,0,none⟩) l.length cap)∧l.length≤cap∧cap≤maxLen∧(∀ j (hj:j<l.length),w'.cell? ⟨g,j,none⟩=some (.string l[j]))∧w'.ownsRow (w.heap.size+2) 9 1 (.slice (some ⟨g,0,none⟩) l.length cap) l.length (l.map Value.string)∧TwoKept w w' g:=by
 refine(ziQ s _ hs l hl h0).mono ?_
 rintro e w1 ⟨g,cap,rfl,hcap,hmx,hg,hg2,hcl,hown,hb⟩
 obtain⟨hc,hf⟩:=zdU hb
 refine⟨g,cap,rfl,hcap,hmx,hcl,by simpa using hown,?_⟩
 refine⟨by simp at hg;omega,hg2,zm2 _ _ _ hb,?_,?_,?_,?_,?_,?_,?_,?_⟩
 ·rw [hc _ _ (by simp;omega)];simp
 ·rw [hc _ _ (by simp;omega)];simp
 ·rw [hc _ _ (by simp)];simp
 ·rw [hc _ _ (by simp)];simp
 ·rw [hf _ _ (by simp;omega)];simp
 ·rw [hf _ _ (by simp;omega)];simp
 ·rw [hf _ _ (by simp)];simp
 ·rw [hf _ _ (by simp)];simp
theorem zk1(s:ByteArray)(w:World)(hs:s.size≤1048576)(hv:zao s 0=true)(r:List ByteArray)(hl:Hid (words s=⟨#[102,117,110,99]⟩ :: r))(hr:¬r.length=1):
  Calls Tryz.prog 46 #[.string s] w (zcl w.heap.size w ⟨102,⟨#[102,117,110,99]⟩ :: r,false⟩):=by
 go_enter Tryz.func46,Tryz.ntmps46
 go_wp2_with(first
  | (go_at_call 71;refine(zcd s _ (by omega)).mono ?_;rintro e w' ⟨rfl,rfl⟩)
  | (go_at_call 72;refine(ziQ s _ (by omega) _ hl (by simp)).mono ?_;rintro e w1 ⟨g,cap,rfl,hcap,hmx,hg,hg2,hcl,hown,hb⟩;obtain⟨hc,hf⟩:=zdU hb;have hc0:=hcl 0 (by simp);simp only [List.getElem_cons_zero] at hc0))
 go_light
 obtain⟨f0,f1⟩:=zca (W:=zev w w1 102 (.slice (some ⟨g,0,none⟩) (r.length+1) cap)) (b:=w.heap.size) (a:=.int .u8 0) (c:=.slice none 0 0) (za7 (by rw [hc _ _ (by simp;omega)];simp)) (za7 (by rw [hc _ _ (by simp;omega)];simp))
 exact bodyPost_ret (v:=.tuple #[.agg #[.int .u8 102,.slice (some ⟨g,0,none⟩) (r.length+1) cap],.bool false]) (by simp [results,Tryz.results46,go_sem,f0,f1]) rfl (zcf (by simpa using hown) (zm2 _ _ _ hb))
theorem zr0(s:ByteArray)(w:World)(hs:s.size≤1048576)(hv:zao s 0=true)(y:ByteArray)(hl:Hid (words s=[⟨#[102,117,110,99]⟩,y]))(hy:y.size≤1048576):
  Calls Tryz.prog 46 #[.string s] w (zcl w.heap.size w ⟨102,[⟨#[102,117,110,99]⟩,y],za2 y⟩):=by
 go_enter Tryz.func46,Tryz.ntmps46
 go_wp2_with(first
  | (go_at_call 71;refine(zcd s _ (by omega)).mono ?_;rintro e w' ⟨rfl,rfl⟩)
  | (go_at_call 73;refine(zha y _ (by omega)).mono ?_;rintro e w' ⟨rfl,rfl⟩)
  | (go_at_call 72;refine(zde s w (by omega) _ hl (by simp)).mono ?_;rintro e w1 ⟨g,cap,rfl,hcap,hmx,hcl,hown,K⟩;obtain⟨hg3,hg2,hb,c0,c1,d0,d1,e0,e1,f0,f1⟩:=K;have hne:¬w.heap.size+1=g:=(by omega);have hne0:¬w.heap.size=g:=(by omega);have hc0:=hcl 0 (by simp);simp only [List.getElem_cons_zero] at hc0;have hc1:=hcl 1 (by simp);simp only [List.getElem_cons_zero,List.getElem_cons_succ] at hc1))
 go_light
 obtain⟨p0,p1⟩:=zca (W:=zev w w1 102 (.slice (some ⟨g,0,none⟩) 2 cap)) (b:=w.heap.size) (za7 c0) (za7 c1)
 exact bodyPost_ret (v:=.tuple #[.agg #[.int .u8 102,.slice (some ⟨g,0,none⟩) 2 cap],.bool (za2 y)]) (by simp [results,Tryz.results46,go_sem,p0,p1]) rfl (zcf (by simpa using hown) hb)
theorem zr1(s:ByteArray)(w:World)(hs:s.size≤1048576)(hv:zao s 0=true)(x:ByteArray)(hl:Hid (words s=[x]))(hx:x.size≤1048576)(hx1:1≤x.size)(hnf:(x.toList == [102,117,110,99])=false)(hlast:((x[x.size-1].toNat:Int) == 58)=true):
  Calls Tryz.prog 46 #[.string s] w (zcl w.heap.size w ⟨108,[x.extract 0 (x.size-1)],za2 (x.extract 0 (x.size-1))⟩):=by
 go_enter Tryz.func46,Tryz.ntmps46
 go_wp2_with(first
  | (go_at_call 71;refine(zcd s _ (by omega)).mono ?_;rintro e w' ⟨rfl,rfl⟩)
  | (go_at_call 73;refine(zha _ _ (by simp;omega)).mono ?_;rintro e w' ⟨rfl,rfl⟩)
  | (go_at_call 72;refine(zde s w (by omega) _ hl (by simp)).mono ?_;rintro e w1 ⟨g,cap,rfl,hcap,hmx,hcl,hown,K⟩;obtain⟨hg3,hg2,hb,c0,c1,d0,d1,e0,e1,f0,f1⟩:=K;have hne:¬w.heap.size+1=g:=(by omega);have hne0:¬w.heap.size=g:=(by omega);have hz:w.heap.size+1<w1.heap.size:=(by omega);have hz0:w.heap.size<w1.heap.size:=(by omega);have hc0:=hcl 0 (by simp);simp only [List.getElem_cons_zero] at hc0))
 go_light
 have x0:((zev w w1 108 (.slice (some ⟨g,0,none⟩) 1 cap)).setCell ⟨w.heap.size+1,1,none⟩ (.slice (some ⟨w1.heap.size,0,none⟩) 1 1)).cell? ⟨w.heap.size,0,none⟩=some (.int .u8 0):=by
  rw [World.cell?_setCell_other]
  ·exact za7 c0
  ·simp
 have x1:((zev w w1 108 (.slice (some ⟨g,0,none⟩) 1 cap)).setCell ⟨w.heap.size+1,1,none⟩ (.slice (some ⟨w1.heap.size,0,none⟩) 1 1)).cell? ⟨w.heap.size,1,none⟩=some (.slice none 0 0):=by
  rw [World.cell?_setCell_other]
  ·exact za7 c1
  ·simp
 obtain⟨p0,p1⟩:=zca x0 x1
 refine bodyPost_ret (v:=.tuple #[.agg #[.int .u8 108,.slice (some ⟨w1.heap.size,0,none⟩) 1 1],.bool (za2 (x.extract 0 (x.size-1)))]) (by simp [results,Tryz.results46,go_sem,p0,p1,hz0]) rfl ⟨_,rfl,?_,?_⟩
 ·have h:=World.ownsRow_lit (base:=w.heap.size) (e:=9) (size:=1) ((((zev w w1 108 (.slice (some ⟨g,0,none⟩) 1 cap)).setCell ⟨w.heap.size+1,1,none⟩ (.slice (some ⟨w1.heap.size,0,none⟩) 1 1)).setCell ⟨w.heap.size,0,none⟩ (.int .u8 108)).setCell ⟨w.heap.size,1,none⟩ (.slice (some ⟨w1.heap.size,0,none⟩) 1 1)) #[Value.string (x.extract 0 (x.size-1))] 1 (by simp [World.setCell];omega) (by unfold maxLen;omega) rfl
  simpa [World.setCell] using h
 ·exact(((((hb.setCell (by simp) _).setCell (by simp) _).setCell (by simp) _).setCell (by simp) _).setCell (by simp) _).alloc (by simp [World.setCell];omega) _
theorem Tryz.info87:(Tryz.prog.info? 87).map (fun i=>(i.zero,i.size,i.bytes))=some (some (.agg #[.int .u8 0,.slice none 0 0]),2,32):=by kernel_rfl
theorem Tryz.under25:Tryz.prog.underlying 25=some (.slice 87):=by kernel_rfl
theorem zbk{w w':World}{B b:Nat}{e:TypeId}{size n:Nat}{v:Value}{xs:List Value}(h:w.ownsRow b e size v n xs)(hb:Below B w w')(hB:w.heap.size≤B):w'.ownsRow b e size v n xs:=by
 refine⟨h.1,?_⟩
 rcases h.2 with h2|⟨g,cap,cur,hv,hg,hh,r⟩
 ·exact .inl h2
 ·refine .inr ⟨g,cap,cur,hv,hg,?_,r⟩
  rw [hb.block g (by have:=(Array.getElem?_eq_some_iff.1 hh).1;omega)]
  exact hh
theorem zdJ{w:World}{b b':Nat}{e e':TypeId}{size size' n n':Nat}{v v':Value}{xs xs':List Value}(h:w.ownsRow b e size v n xs)(h':w.ownsRow b' e' size' v' n' xs')(hne:¬e=e'):v.ownBlock=none∨v.ownBlock≠v'.ownBlock:=by
 rcases h.2 with ⟨hv,_⟩|⟨g,cap,cur,hv,hg,hh,r⟩
 ·subst hv;exact .inl rfl
 ·rcases h'.2 with ⟨hv',_⟩|⟨g',cap',cur',hv',hg',hh',r'⟩
  ·subst hv hv';exact .inr (by simp [Value.ownBlock])
  ·subst hv hv'
   refine .inr ?_
   simp only [Value.ownBlock]
   intro heq
   simp only [Option.some.injEq] at heq
   subst heq
   rw [hh] at hh'
   simp at hh'
   exact hne hh'.2
def zch(P:List (Said × Value)):List Value:=P.flatMap fun p=>[.int .u8 p.1.kind,p.2]
theorem zi7(P:List (Said × Value))(q:Said)(v:Value):zch (P++[(q,v)])=zch P++[.int .u8 q.kind,v]:=by simp [zch]
theorem zjG(P:List (Said × Value)):(zch P).length=P.length*2:=by
 induction P with
 | nil=>rfl
 | cons p P ih=>simp [zch] at ih ⊢;omega
theorem zff(P:List (Said × Value))(i:Nat)(h:i<P.length):(zch P)[i*2]?=some (.int .u8 P[i].1.kind)∧(zch P)[i*2+1]?=some P[i].2:=by
 induction P generalizing i with
 | nil=>simp at h
 | cons p P ih =>
  cases i with
  | zero=>simp [zch]
  | succ i =>
   have:=ih i (by simpa using h)
   simp only [zch,List.flatMap_cons] at this ⊢
   rw [show(i+1)*2=i*2+2 by omega,show i*2+2+1=i*2+1+2 by omega]
   simpa using this
structure RowsIn(B:Nat)(w:World)(v:Value)(P:List (Said × Value)):Prop where
 row:w.ownsRow B 87 2 v P.length (zch P)
 words:∀ p∈P,w.ownsRow B 9 1 p.2 p.1.kept.length (p.1.kept.map Value.string)
theorem RowsIn.below{B C:Nat}{w w':World}{v:Value}{P:List (Said × Value)}(h:RowsIn B w v P)(hb:Below C w w')(hC:w.heap.size≤C):RowsIn B w' v P :=
 ⟨zbk h.row hb hC,fun p hp=>zbk (h.words p hp) hb hC⟩
theorem RowsIn.alloc{B:Nat}{w:World}{v:Value}{P:List (Said × Value)}(h:RowsIn B w v P)(o:Obj):RowsIn B (w.alloc o) v P :=
 ⟨h.row.alloc o,fun p hp=>(h.words p hp).alloc o⟩
theorem RowsIn.grown{B:Nat}{w w':World}{v v':Value}{P:List (Said × Value)}{q:Said}{u:Value}(h:RowsIn B w v P)(hu:w.ownsRow B 9 1 u q.kept.length (q.kept.map Value.string))(hg:w.grownBy w' v.ownBlock)(hown:w'.ownsRow B 87 2 v' (P.length+1) (zch P++[.int .u8 q.kind,u])):RowsIn B w' v' (P++[(q,u)]):=by
 refine⟨by rw [zi7];simpa using hown,fun p hp=>?_⟩
 rw [List.mem_append] at hp
 rcases hp with hp|hp
 ·exact(h.words p hp).kept hg (zdJ (h.words p hp) h.row (by decide))
 ·simp at hp;subst hp
  exact hu.kept hg (zdJ hu h.row (by decide))
theorem RowsIn.lines{B:Nat}{w:World}{v:Value}{P:List (Said × Value)}(h:RowsIn B w v P)(hp:0<P.length)(hw:∀ p∈P,Wf p.1):
  ∃ g cap,v=.slice (some ⟨g,0,none⟩) P.length cap∧B≤g∧LinesIn w g (P.map Prod.fst):=by
 have hr:=h.row
 rcases h.row.2 with ⟨_,h2⟩|⟨g,cap,cur,hv,hg,hh,hc,hm,hs,hx⟩
 ·have:=zjG P
  rw [h2] at this;simp at this;omega
 ·subst hv
  refine⟨g,cap,rfl,hg,?_,?_,?_⟩
  ·intro i hi
   have hi':i<P.length:=by simpa using hi
   rw [World.ownsRow.cellAt hr (i*2) (by omega),(zff P i hi').1]
   simp
  ·intro i hi hk
   have hi':i<P.length:=by simpa using hi
   have e:(P.map Prod.fst)[i]=P[i].1:=by simp
   rw [e] at hk
   obtain⟨b,c,hv,_,_,_,_,hcl⟩:=znR (h.words P[i] (List.getElem_mem hi')) hk
   refine⟨b,c,?_,?_⟩
   ·rw [World.ownsRow.cellAt hr (i*2+1) (by omega),(zff P i hi').2,hv]
    simp
   ·intro j hj
    simp only [e] at hj ⊢
    exact hcl j hj
  ·intro i hi
   have hi':i<P.length:=by simpa using hi
   simp only [List.getElem_map]
   exact hw _ (List.getElem_mem hi')
end Go.Proofs.YtfpgjkbjbbgciaaGreatDoor
