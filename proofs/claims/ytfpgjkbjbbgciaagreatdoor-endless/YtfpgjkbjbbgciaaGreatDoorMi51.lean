import Derived.Test.YtfpgjkbjbbgciaaGreatDoorMi44
import Derived.Test.YtfpgjkbjbbgciaaGreatDoorMi48
import Derived.Test.YtfpgjkbjbbgciaaGreatDoorMi50
set_option maxRecDepth 100000
set_option maxHeartbeats 8000000
namespace Go.Proofs.YtfpgjkbjbbgciaaGreatDoor
open Go.RowKit Sp
section
def ztX(w:World)(B S g:Nat)(C:List (Ins × Int))(cv:Value)(R:Rs)(looks:Nat)(bf:Int)(xs:List Wy)(x:Wy)(L:Option (List Kn)):Ending→World→Prop:=fun e w'=>Below B w w' ∧
 ((e=zak 8 0∧(x.k.steps=100000∨R.kn.endless x.k=none∨L=none)) ∨
  (e=.returned (.tuple #[])∧¬x.k.steps=100000∧∃(v' mv':Value) (ys:List Wy) (R':Rs) (ks:List Kn),R.kn.endless x.k=some R'.kn∧L=some ks∧SO w' B S g C v' mv' ys [] R'.marked∧SC w' S cv v' mv' R' looks (x.k.steps+1) (max bf ((x.k.behind.length:Int)+1))∧(ys.map Wy.k).Perm (xs.map Wy.k++ks)))
theorem zw4{w:World}{B S g ccap:Nat}{C:List (Ins × Int)}{v mv:Value}{R:Rs}{looks:Nat}{bs bf:Int}{xs:List Wy}{x:Wy}(O:SO w B S g C v mv xs [x] R.marked)(c:SC w S (.slice (some ⟨g,0,none⟩) C.length ccap) v mv R looks bs bf)(hC:CodeSure C)(K:KnIn C x.k)
  (s0:0≤R.steps) (s1:R.steps≤100000) (hl:R.marked.length≤500000) (hn:R.seen≤500000) (f0:0≤bf) (f1:bf≤16) (hlen:xs.length≤2000) {p:Nat} (hp:p<C.length) (hnx:x.k.next=(p:Int)) :
  Calls Tryz.prog 116 #[.pointer (some ⟨S,0,none⟩),.pointer (some ⟨x.b,0,none⟩)] w (ztX w B S g C (.slice (some ⟨g,0,none⟩) C.length ccap) R looks bf xs x (zaw C[p].1 x.k)):=by
 have X:=O.hand x (by simp)
 have hBw:B≤w.heap.size:=by have:=O.SB;have:=O.SL;omega
 have ek:=zqV R ⟨x.ao,x.cap,x.k⟩
 by_cases e1:x.k.steps=100000
 ·refine(ztU X.kn e1).mono ?_
  rintro e w' ⟨rfl,rfl⟩
  exact⟨Below.refl _ _,.inl ⟨rfl,.inl e1⟩⟩
 ·cases hR:R.endless ⟨x.ao,x.cap,x.k⟩ with
  | none =>
   have hend:=zhi c.rs c.fz O s0 s1 K.s0 K.s1 hl hn
   rw [hR] at hend ek
   refine(zro X.kn e1 hend).mono ?_
   rintro e w' ⟨rfl,hb⟩
   exact⟨hb.mono hBw,.inl ⟨rfl,.inr (.inl ek)⟩⟩
  | some R' =>
   rw [hR] at ek
   refine(zy2 O c hC K e1 hR s0 s1 hl hn f0 f1 hlen hp hnx rfl).mono ?_
   intro e w' h
   cases hL:zaw C[p].1 x.k with
   | none =>
    rw [hL] at h
    exact⟨h.2,.inl ⟨h.1,.inr (.inr rfl)⟩⟩
   | some ks =>
    rw [hL] at h
    obtain⟨rfl,v',mv',ys,O',c',hp',hb'⟩:=h
    exact⟨hb',.inr ⟨rfl,e1,v',mv',ys,R',ks,ek,rfl,O',c',hp'⟩⟩
def zh6(w:World)(S:Nat):Nat:=match w.cell? ⟨S,6,none⟩ with|some (.int _ n)=>n.toNat|_=>0
theorem ziO{w:World}{S n:Nat}(h:w.cell? ⟨S,6,none⟩=some (.int .i64 (n:Int))):zh6 w S=n:=by unfold zh6;rw [h];simp
structure RunI(w:World)(B S g ccap:Nat)(C:List (Ins × Int))(wr:World)(v mv:Value)(xs:List Wy)(R:Rs)(looks:Nat)(bs bf:Int):Prop where
 so':SO wr B S g C v mv xs [] R.marked
 sc:SC wr S (.slice (some ⟨g,0,none⟩) C.length ccap) v mv R looks bs bf
 reach:Reach C ⟨xs.map Wy.k,looks,R.kn,bs,bf⟩
 low:Below B w wr
def zh7(w:World)(B S:Nat)(C:List (Ins × Int)):Ending→World→Prop:=fun e w'=>Below B w w'∧((e=zak 8 0∧Verd C none)∨(e=.returned (.tuple #[])∧∃ bs bf,Verd C (some (bs,bf))∧w'.cell? ⟨S,7,none⟩=some (.int .i64 bs)∧w'.cell? ⟨S,8,none⟩=some (.int .i64 bf)))
section
variable {w:World} {B S g ccap:Nat} {C:List (Ins × Int)} {wr:World} {v mv:Value} {xs:List Wy} {R:Rs} {looks:Nat} {bs bf:Int}
theorem RunI.ok(I:RunI w B S g ccap C wr v mv xs R looks bs bf)(hC:CodeSure C):GsOk C ⟨xs.map Wy.k,looks,R.kn,bs,bf⟩:=(I.reach.t hC).ok
theorem RunI.leave(I:RunI w B S g ccap C wr v mv xs R looks bs bf)(h0:xs.length=0):zh7 w B S C (.returned (.tuple #[])) wr:=by
 have e:xs=[]:=List.length_eq_zero_iff.1 h0
 exact⟨I.low,.inr ⟨rfl,bs,bf,⟨_,I.reach,by rw [e];rfl,rfl,rfl⟩,I.sc.c7,I.sc.c8⟩⟩
theorem RunI.tired(I:RunI w B S g ccap C wr v mv xs R looks bs bf)(h0:¬xs.length=0)(h:500000≤looks∨1000<xs.length){w':World}(hb:Below S wr w'):zh7 w B S C (zak 8 0) w':=by
 refine⟨I.low.trans (hb.mono I.so'.SB),.inl ⟨rfl,⟨_,I.reach,?_,?_⟩⟩⟩
 ·intro e
  have:(xs.map Wy.k).length=0:=by rw [show xs.map Wy.k=[] from e];rfl
  rw [List.length_map] at this;omega
 ·rcases h with h|h
  ·exact .inl h
  ·exact .inr (.inl (by show 1000<(xs.map Wy.k).length;rw [List.length_map];exact h))
theorem RunI.effort(I:RunI w B S g ccap C wr v mv xs R looks bs bf):SO (wr.setCell ⟨S,6,none⟩ (.int .i64 ((looks:Int)+1))) B S g C v mv xs [] R.marked∧SC (wr.setCell ⟨S,6,none⟩ (.int .i64 ((looks:Int)+1))) S (.slice (some ⟨g,0,none⟩) C.length ccap) v mv R (looks+1) bs bf∧Below B w (wr.setCell ⟨S,6,none⟩ (.int .i64 ((looks:Int)+1))):=by
 refine⟨ztV I.so',?_,I.low.setCell (p:=⟨S,6,none⟩) I.so'.SB _⟩
 have:=I.sc.set6 (looks+1)
 rw [show(((looks+1:Nat)):Int)=(looks:Int)+1 by omega] at this
 exact this
end
theorem zw5{w:World}{B S g ccap:Nat}{C:List (Ins × Int)}{v mv:Value}{xs:List Wy}{R:Rs}{looks:Nat}{bs bf:Int}(I0:RunI w B S g ccap C w v mv xs R looks bs bf)(hC:CodeSure C):
  Calls Tryz.prog 92 #[.pointer (some ⟨S,0,none⟩)] w (zh7 w B S C):=by
 go_enter Tryz.func92,Tryz.ntmps92
 go_wp2
 go_loopw [] (fun wr=>∃(v mv:Value) (xs:List Wy) (R:Rs) (looks:Nat) (bs bf:Int),RunI w B S g ccap C wr v mv xs R looks bs bf) (fun wr=>500001-zh6 wr S)
 case atStart=>exact⟨v,mv,xs,R,looks,bs,bf,I0⟩
 case round =>
  clear I0
  obtain⟨v,mv,xs,R,looks,bs,bf,I⟩:=hrel
  have ok:=I.ok hC
  have o1:xs.length≤1002:=by have:=ok.few;rw [List.length_map] at this;exact this
  have o2:looks≤500000:=ok.looks
  have c1:=I.sc.c1
  obtain⟨ao,cap,rfl,_,_,_⟩:=zdE I.so'.hp.row
  have hl:=fun W=>zfZ W ao xs.length cap (by omega)
  by_cases h0:xs.length=0
  ·have hfin:=I.leave h0
   rw [h0] at hl c1
   clear I ok
   go_wp2_with(go_at_call 114;(with_reducible refine(hl _).mono ?_);rintro e wx ⟨rfl,hww⟩;have hw2:=hww.symm;subst hw2)
   exact bodyPost_end (results_none rfl _ _ _) rfl hfin
  ·have hpos:(0:Int)<(xs.length:Int):=by omega
   by_cases he:500000≤looks∨1000<xs.length
   ·have hef:=zti c1 I.sc.c6 (I.sc.fz 6) o2 (by omega) he
    have hfin:Hid (∀ w',Below S wr w'→zh7 w B S C (zak 8 0) w'):=fun w' hb=>I.tired h0 he hb
    clear I ok he
    go_wp2_with(first
     | (go_at_call 114;(with_reducible refine(hl _).mono ?_);rintro e wx ⟨rfl,hww⟩;have hw2:=hww.symm;subst hw2)
     | (go_at_call 115;(with_reducible refine hef.mono ?_);rintro e wx ⟨rfl,hbx⟩))
    exact⟨rfl,hfin.out _ hbx⟩
   ·have hef:=zth (looks:=looks) c1 I.sc.c6 (I.sc.fz 6) (by omega) (by omega)
    obtain⟨O1,c1',hb1⟩:=I.effort
    have htk:=zwv O1 c1' (by omega) (by omega)
    have hlc:Hid (zh6 wr S=looks):=ziO I.sc.c6
    have hrs0:0≤R.steps:=ok.rs0
    have hrs1:R.steps≤100000:=ok.rs1
    have hmk:R.marked.length≤500000:=by have:=ok.mkd;rw [show(⟨xs.map Wy.k,looks,R.kn,bs,bf⟩:Gs).R.marked.length=(R.marked.map Mk.k).length from rfl,List.length_map] at this;have:R.marked.length≤looks:=this;omega
    have hsn:R.seen≤500000:=by have:R.seen≤looks:=ok.seen;omega
    have hf0:0≤bf:=ok.bf0
    have hf1:bf≤16:=ok.bf1
    have HK:Hid (∀(x:Wy) (ys:List Wy),TakeD (xs.map Wy.k) x.k (ys.map Wy.k)→KnIn C x.k∧ys.length≤2000):=fun x ys ht=>by
     obtain⟨a,_,b,_⟩:=ht.1.kn hC.ok.few ok.kn
     refine⟨a,?_⟩
     rw [List.length_map] at b
     have:ys.length<(xs.map Wy.k).length:=b
     rw [List.length_map] at this;omega
    have HRE:Hid (Reach C ⟨xs.map Wy.k,looks,R.kn,bs,bf⟩∧¬xs.length=0∧looks<500000∧xs.length≤1000):=⟨I.reach,h0,by omega,by omega⟩
    clear I ok he O1 c1' o1 o2
    go_wp2_with(first
     | (go_at_call 114;(with_reducible refine(hl _).mono ?_);rintro e wx ⟨rfl,hww⟩;have hw2:=hww.symm;subst hw2)
     | (go_at_call 115;(with_reducible refine hef.mono ?_);rintro e wx ⟨rfl,hww⟩;have hw2:=hww.symm;subst hw2)
     | (go_at_call 117;(with_reducible refine htk.mono ?_);rintro e wt ⟨vt,ys,x,rfl,Ot,ct,td,hbt⟩)
     | (go_at_call 116;refine Hid.out ?_))
    unfold Hid
    obtain⟨kx,hyl⟩:=HK.out x ys td
    obtain⟨p,hpn,hpl⟩:=kx.next
    refine(zw4 Ot ct hC kx hrs0 hrs1 hmk hsn hf0 hf1 hyl hpl hpn).mono ?_
    rintro e w3 ⟨hb3,hcase⟩
    obtain⟨re,z0,z1,z2⟩:=HRE.out
    have hb3':Below B w w3:=hb1.trans (hbt.trans hb3)
    rcases hcase with ⟨rfl,hrf⟩|⟨rfl,hn100,v',mv',zs,R',ks,hk1,hk2,O3,c3,hpm⟩
    ·dsimp only
     refine⟨rfl,hb3',.inl ⟨rfl,⟨_,re,?_,.inr (.inr ⟨x.k,ys.map Wy.k,td,?_⟩)⟩⟩⟩
     ·intro e
      have:(xs.map Wy.k).length=0:=by rw [show xs.map Wy.k=[] from e];rfl
      rw [List.length_map] at this;omega
     ·rcases hrf with h|h|h
      ·exact .inl h
      ·exact .inr (.inl h)
      ·exact .inr (.inr ⟨p,hpl,hpn,h⟩)
    ·dsimp only
     have I2:RunI w B S g ccap C w3 v' mv' zs R' (looks+1) (x.k.steps+1) (max bf ((x.k.behind.length:Int)+1)):=⟨O3,c3,.step re ⟨x.k,ys.map Wy.k,ks,p,hpl,z1,by show(xs.map Wy.k).length≤1000;rw [List.length_map];exact z2,td,hn100,hk1,hpn,hk2,hpm,rfl,rfl,rfl⟩,hb3'⟩
     go_wp2
     go_roundw
     case rel=>exact⟨v',mv',zs,R',looks+1,_,_,I2⟩
     case measure=>rw [ziO c3.c6,hlc.out];omega
end
def rs0:Rs:=⟨[],0,0,false⟩
theorem ztZ{w w1:World}{g ccap:Nat}{C:List (Ins × Int)}(hK:KnM w1 w.heap.size (.slice none 0 0) kn0)(hb:Below w.heap.size w w1)(hs:w1.heap.size=w.heap.size+1)(hg:g<w.heap.size)(hC:CodeIn w g C):
  ∃ W,((w1.alloc (.cells #[.pointer (some ⟨w.heap.size,0,none⟩)] 197)).alloc (.cells #[.slice (some ⟨g,0,none⟩) C.length ccap,.slice (some ⟨w1.heap.size,0,none⟩) 1 1,.slice none 0 0,.int .i64 0,.int .i64 0,.bool false,.int .i64 0,.int .i64 0,.int .i64 0] 156))=W∧Below w.heap.size w W ∧
   RunI W w.heap.size (w1.heap.size+1) g ccap C W (.slice (some ⟨w1.heap.size,0,none⟩) 1 1) (.slice none 0 0) [⟨w.heap.size,none,0,kn0⟩] rs0 0 0 0:=by
 refine⟨_,rfl,?_,?_⟩
 ·exact(hb.alloc (by omega) _).alloc (by simp;omega) _
 ·have hb1:Below w1.heap.size w1 (w1.alloc (.cells #[.pointer (some ⟨w.heap.size,0,none⟩)] 197)):=(Below.refl _ _).alloc (Nat.le_refl _) _
  have hs2:(w1.alloc (.cells #[.pointer (some ⟨w.heap.size,0,none⟩)] 197)).heap.size=w1.heap.size+1:=by simp
  have hc1:=fun j=>World.cell?_alloc_new (w:=w1) #[.pointer (some ⟨w.heap.size,0,none⟩)] 197 j
  have hh1:=heap_alloc_new w1 (.cells #[.pointer (some ⟨w.heap.size,0,none⟩)] 197)
  generalize w1.alloc (.cells #[.pointer (some ⟨w.heap.size,0,none⟩)] 197)=w2 at hb1 hs2 hc1 hh1 ⊢
  have hc2:=fun j=>World.cell?_alloc_new (w:=w2) #[.slice (some ⟨g,0,none⟩) C.length ccap,.slice (some ⟨w1.heap.size,0,none⟩) 1 1,.slice none 0 0,.int .i64 0,.int .i64 0,.bool false,.int .i64 0,.int .i64 0,.int .i64 0] 156 j
  have hb2:Below w2.heap.size w2 (w2.alloc (.cells #[.slice (some ⟨g,0,none⟩) C.length ccap,.slice (some ⟨w1.heap.size,0,none⟩) 1 1,.slice none 0 0,.int .i64 0,.int .i64 0,.bool false,.int .i64 0,.int .i64 0,.int .i64 0] 156)):=(Below.refl _ _).alloc (Nat.le_refl _) _
  have hs3:(w2.alloc (.cells #[.slice (some ⟨g,0,none⟩) C.length ccap,.slice (some ⟨w1.heap.size,0,none⟩) 1 1,.slice none 0 0,.int .i64 0,.int .i64 0,.bool false,.int .i64 0,.int .i64 0,.int .i64 0] 156)).heap.size=w2.heap.size+1:=by simp
  have hf3:∀ j,(w2.alloc (.cells #[.slice (some ⟨g,0,none⟩) C.length ccap,.slice (some ⟨w1.heap.size,0,none⟩) 1 1,.slice none 0 0,.int .i64 0,.int .i64 0,.bool false,.int .i64 0,.int .i64 0,.int .i64 0] 156)).frozen? ⟨w2.heap.size,j,none⟩=false:=fun j=>by simp
  generalize w2.alloc (.cells #[.slice (some ⟨g,0,none⟩) C.length ccap,.slice (some ⟨w1.heap.size,0,none⟩) 1 1,.slice none 0 0,.int .i64 0,.int .i64 0,.bool false,.int .i64 0,.int .i64 0,.int .i64 0] 156)=W at hc2 hb2 hs3 hf3 ⊢
  have hB:Below w1.heap.size w1 W:=hb1.trans (hb2.mono (by omega))
  have hKW:KnM W w.heap.size (.slice none 0 0) kn0:=hK.below hB (by omega)
  have hwy:WyM W ⟨w.heap.size,none,0,kn0⟩:=⟨⟨⟨Int.le_refl _,by show(0:Int)≤1000;omega⟩,⟨Nat.zero_le _,fun z hz=>(by cases hz)⟩⟩,hKW,zz2 W⟩
  have hS:w2.heap.size=w1.heap.size+1:=hs2
  rw [hS] at hc2 hf3 hs3
  refine⟨⟨?_,hg,by omega,by omega,⟨⟨by simp [zjo],.inr ⟨w1.heap.size,1,#[.pointer (some ⟨w.heap.size,0,none⟩)],rfl,by omega,(hb2.block _ (by omega)).trans hh1,Nat.le_refl _,by unfold maxLen;omega,rfl,by simp [zjo]⟩⟩,fun x hx=>by rw [List.mem_singleton.1 hx];exact hwy,fun q hq x hx=>?_⟩,fun i h1 h2=>?_,fun h hh=>(by cases hh),?_,fun m hm=>(by cases hm),?_,?_,?_,by simp,fun x hx=>?_,fun m hm=>(by cases hm)⟩,⟨hc2 0,hc2 1,⟨hc2 2,hc2 3,hc2 4,hc2 5⟩,hc2 6,hc2 7,hc2 8,hf3⟩,.zero,Below.refl _ _⟩
  ·exact(hC.below hb hg).below (hB.mono (B':=w.heap.size) (by omega)) hg
  ·rw [List.mem_singleton.1 hx]
   have e:w1.heap.size=q:=by have:some w1.heap.size=some q:=hq;simpa using this
   exact⟨by show ¬w.heap.size=q;omega,fun a ha=>(by cases ha)⟩
  ·simp only [List.length_singleton] at h2;omega
  ·exact World.ownsRow_nil _ _ _ _
  ·intro e
   have e2:w1.heap.size=w1.heap.size+1:=by have:some w1.heap.size=some (w1.heap.size+1):=e;simp at this
   omega
  ·intro e;cases e
  ·intro q _ e;cases e
  ·rw [List.mem_singleton.1 (show x∈[(⟨w.heap.size,none,0,kn0⟩:Wy)] from hx)]
   refine⟨Nat.le_refl _,⟨by show ¬w.heap.size=w1.heap.size+1;omega,fun e=>?_,fun e=>(by cases e)⟩,fun a ha=>(by cases ha)⟩
   have e2:w1.heap.size=w.heap.size:=by have:some w1.heap.size=some w.heap.size:=e;simpa using this
   omega
def zpz(w:World)(g ccap:Nat)(C:List (Ins × Int)):Ending→World→Prop:=fun e w'=>∃ S v mv xs,e=.returned (.pointer (some ⟨S,0,none⟩))∧Below w.heap.size w w'∧RunI w' w.heap.size S g ccap C w' v mv xs rs0 0 0 0
theorem zrq{w:World}{g ccap:Nat}{C:List (Ins × Int)}(hg:g<w.heap.size)(hC:CodeIn w g C):Calls Tryz.prog 91 #[.slice (some ⟨g,0,none⟩) C.length ccap] w (zpz w g ccap C):=by
 have h1:=zoa w
 have HM:Hid (∀ w1,KnM w1 w.heap.size (.slice none 0 0) kn0→Below w.heap.size w w1→w1.heap.size=w.heap.size+1→zpz w g ccap C (.returned (.pointer (some ⟨w1.heap.size+1,0,none⟩))) ((w1.alloc (.cells #[.pointer (some ⟨w.heap.size,0,none⟩)] 197)).alloc (.cells #[.slice (some ⟨g,0,none⟩) C.length ccap,.slice (some ⟨w1.heap.size,0,none⟩) 1 1,.slice none 0 0,.int .i64 0,.int .i64 0,.bool false,.int .i64 0,.int .i64 0,.int .i64 0] 156))):=fun w1 a b c=>by
  obtain⟨W,e,h2,h3⟩:=ztZ (ccap:=ccap) a b c hg hC
  rw [e]
  exact⟨_,_,_,_,rfl,h2,h3⟩
 go_enter Tryz.func91,Tryz.ntmps91
 go_wp2_with(go_at_call 113;(with_reducible refine h1.mono ?_);rintro e w1 ⟨rfl,hK,hb,hs⟩;have hfin:=HM.out w1 hK hb hs;clear hK hs)
 go_ret
 exact hfin
def zua(w:World)(C:List (Ins × Int)):Ending→World→Prop:=fun e w'=>Below w.heap.size w w'∧((e=zak 8 0∧Verd C none)∨∃ bs bf,e=.returned (.agg #[.int .i64 bs,.int .i64 bf])∧Verd C (some (bs,bf)))
theorem zkB(V:World)(cs:Array Value)(t:TypeId)(j:Nat):(V.alloc (.cells cs t)).frozen? ⟨V.heap.size,j,none⟩=false:=by simp
abbrev VfW(w:World)(s:ByteArray):World:=(w.alloc (.cells #[.string s] 9)).alloc (.cells #[.int .i64 0,.int .i64 0] 42)
theorem zkC(w:World)(s:ByteArray):(VfW w s).heap.size=w.heap.size+1+1:=by simp
theorem ziQ(w:World)(s:ByteArray):Below w.heap.size w (VfW w s):=((Below.refl _ _).alloc (Nat.le_refl _) _).alloc (by simp) _
theorem zue(w:World)(s:ByteArray):(VfW w s).cell? ⟨w.heap.size,0,none⟩=some (.string s)∧(VfW w s).cell? ⟨w.heap.size+1,0,none⟩=some (.int .i64 0)∧(VfW w s).cell? ⟨w.heap.size+1,1,none⟩=some (.int .i64 0)∧∀ j,(VfW w s).frozen? ⟨w.heap.size+1,j,none⟩=false:=by
 have e:(w.alloc (.cells #[.string s] 9)).heap.size=w.heap.size+1:=by simp
 have h1:=World.cell?_alloc_new (w:=w) #[.string s] 9 0
 have h2:=fun j=>World.cell?_alloc_new (w:=w.alloc (.cells #[.string s] 9)) #[.int .i64 0,.int .i64 0] 42 j
 rw [e] at h2
 refine⟨?_,h2 0,h2 1,fun j=>?_⟩
 ·exact(World.cell?_of_block (a:=⟨w.heap.size,0,none⟩) (Below.heap_alloc _ _ _ (by show w.heap.size<_;rw [e];omega))).trans h1
 ·have:∀ j,((w.alloc (.cells #[.string s] 9)).alloc (.cells #[.int .i64 0,.int .i64 0] 42)).frozen? ⟨(w.alloc (.cells #[.string s] 9)).heap.size,j,none⟩=false:=fun j=>by simp
  rw [e] at this
  exact this j
def ziR(w:World)(bs bf er ln:Int):Ending→World→Prop:=fun e w'=>e=.returned (.tuple #[.agg #[.int .i64 bs,.int .i64 bf],.int .i64 er,.int .i64 ln])∧Below w.heap.size w w'
theorem zeB(w:World)(s:ByteArray)(er ln:Int)(hcall:Calls Tryz.prog 59 #[.pointer (some ⟨w.heap.size,0,none⟩),.pointer (some ⟨w.heap.size+1,0,none⟩)] (OutW (VfW w s)) fun e w'=>e=zak er ln∧Below (OutW (VfW w s)).heap.size (OutW (VfW w s)) w'):
  Calls Tryz.prog 26 #[.string s] w (ziR w 0 0 er ln):=by
 have hmf:∀(fn:Go.Fn) (first cap:Array Value) (w:World),(Instr.makeFunc fn first cap).run Tryz.prog w=.ok (.func fn first cap) w:=fun _ _ _ _=>rfl
 have hout:=zeq 59 _ (VfW w s) er ln (fun W=>by kernel_rfl) hcall
 have hsz:=zkC w s
 have hbw:=ziQ w s
 obtain⟨_,d0,d1,z⟩:=zue w s
 go_enter Tryz.func26,Tryz.ntmps26
 go_wp2_with(first|(go_at_call 42;refine hout.mono ?_;rintro e w5 ⟨rfl,hb5⟩;refine Hid.out ?_))
 unfold Hid
 have hlt:w.heap.size+1<(VfW w s).heap.size:=by rw [hsz];omega
 have e0:w5.cell? ⟨w.heap.size+1,0,none⟩=some (.int .i64 0):=(World.cell?_of_block (a:=⟨w.heap.size+1,0,none⟩) (hb5.block _ hlt)).trans d0
 have e1:w5.cell? ⟨w.heap.size+1,1,none⟩=some (.int .i64 0):=(World.cell?_of_block (a:=⟨w.heap.size+1,1,none⟩) (hb5.block _ hlt)).trans d1
 have z0:w5.frozen? ⟨w.heap.size+1,0,none⟩=false:=(World.frozen?_of_block (a:=⟨w.heap.size+1,0,none⟩) (hb5.block _ hlt)).trans (z 0)
 have z1:w5.frozen? ⟨w.heap.size+1,1,none⟩=false:=(World.frozen?_of_block (a:=⟨w.heap.size+1,1,none⟩) (hb5.block _ hlt)).trans (z 1)
 have hb05:Below w.heap.size w w5:=hbw.trans (hb5.mono hbw.size)
 clear hout hcall d0 d1 z hbw hsz hb5 hlt
 go_wp2
 refine bodyPost_ret (v:=.tuple #[.agg #[.int .i64 0,.int .i64 0],.int .i64 er,.int .i64 ln]) (by simp [results,Tryz.results26,go_sem,e0,e1]) rfl ⟨rfl,?_⟩
 exact(hb05.setCell (p:=⟨w.heap.size+1,0,none⟩) (Nat.le_succ _) _).setCell (p:=⟨w.heap.size+1,1,none⟩) (Nat.le_succ _) _
theorem zrs(w:World)(s:ByteArray)(bs bf:Int)(hcall:Calls Tryz.prog 59 #[.pointer (some ⟨w.heap.size,0,none⟩),.pointer (some ⟨w.heap.size+1,0,none⟩)] (OutW (VfW w s)) fun e w'=>e=.returned (.tuple #[])∧∃ w1,Below (OutW (VfW w s)).heap.size (OutW (VfW w s)) w1∧w'=(w1.setCell ⟨w.heap.size+1,0,none⟩ (.int .i64 bs)).setCell ⟨w.heap.size+1,1,none⟩ (.int .i64 bf)):
  Calls Tryz.prog 26 #[.string s] w (ziR w bs bf 0 0):=by
 have hmf:∀(fn:Go.Fn) (first cap:Array Value) (w:World),(Instr.makeFunc fn first cap).run Tryz.prog w=.ok (.func fn first cap) w:=fun _ _ _ _=>rfl
 have hsz:=zkC w s
 have hbw:=ziQ w s
 obtain⟨_,d0,d1,z⟩:=zue w s
 have hso:(OutW (VfW w s)).heap.size=w.heap.size+1+1+1+1:=by simp
 have hbo:=zeS (VfW w s)
 have ho0:(OutW (VfW w s)).cell? ⟨(VfW w s).heap.size,0,none⟩=some (.int .i64 0):=by
  have h1:=World.cell?_alloc_new (w:=VfW w s) #[.int .i64 0] 22 0
  exact(World.cell?_of_block (a:=⟨(VfW w s).heap.size,0,none⟩) (Below.heap_alloc _ _ _ (by simp))).trans h1
 have ho1:(OutW (VfW w s)).cell? ⟨(VfW w s).heap.size+1,0,none⟩=some (.int .i64 0):=by
  have h1:=World.cell?_alloc_new (w:=(VfW w s).alloc (.cells #[.int .i64 0] 22)) #[.int .i64 0] 3 0
  rw [show((VfW w s).alloc (.cells #[.int .i64 0] 22)).heap.size=(VfW w s).heap.size+1 by simp] at h1
  exact h1
 have hf0:(OutW (VfW w s)).frozen? ⟨(VfW w s).heap.size,0,none⟩=false:=by
  have h1:=zkB (VfW w s) #[.int .i64 0] 22 0
  exact(World.frozen?_of_block (a:=⟨(VfW w s).heap.size,0,none⟩) (Below.heap_alloc _ _ _ (by simp))).trans h1
 have hf1:(OutW (VfW w s)).frozen? ⟨(VfW w s).heap.size+1,0,none⟩=false:=by
  have h1:=zkB ((VfW w s).alloc (.cells #[.int .i64 0] 22)) #[.int .i64 0] 3 0
  rw [show((VfW w s).alloc (.cells #[.int .i64 0] 22)).heap.size=(VfW w s).heap.size+1 by simp] at h1
  exact h1
 have hbk:∀ w1 b,Below (OutW (VfW w s)).heap.size (OutW (VfW w s)) w1→b<w.heap.size+4→¬b=w.heap.size+1→((w1.setCell ⟨w.heap.size+1,0,none⟩ (.int .i64 bs)).setCell ⟨w.heap.size+1,1,none⟩ (.int .i64 bf)).heap[b]?=(OutW (VfW w s)).heap[b]?:=fun w1 b hb hlt hne=>(Below.heap_setCell _ _ _ b hne).trans ((Below.heap_setCell _ _ _ b hne).trans (hb.block b (by rw [hso];omega)))
 have hout:=zhH 59 _ (VfW w s) _ (fun W=>by kernel_rfl) hcall (fun w2 ⟨w1,hb,e⟩=>by
  subst e
  rw [hsz]
  rw [hsz] at ho0 ho1 hf0 hf1
  exact⟨(World.cell?_of_block (a:=⟨w.heap.size+1+1,0,none⟩) (hbk w1 _ hb (by show w.heap.size+1+1<_;omega) (by show ¬w.heap.size+1+1=_;omega))).trans ho0,(World.cell?_of_block (a:=⟨w.heap.size+1+1+1,0,none⟩) (hbk w1 _ hb (by show w.heap.size+1+1+1<_;omega) (by show ¬w.heap.size+1+1+1=_;omega))).trans ho1,(World.frozen?_of_block (a:=⟨w.heap.size+1+1,0,none⟩) (hbk w1 _ hb (by show w.heap.size+1+1<_;omega) (by show ¬w.heap.size+1+1=_;omega))).trans hf0,(World.frozen?_of_block (a:=⟨w.heap.size+1+1+1,0,none⟩) (hbk w1 _ hb (by show w.heap.size+1+1+1<_;omega) (by show ¬w.heap.size+1+1+1=_;omega))).trans hf1⟩)
 have HV:Hid (∀ w1,Below (OutW (VfW w s)).heap.size (OutW (VfW w s)) w1→∀ w5,w5=(((w1.setCell ⟨w.heap.size+1,0,none⟩ (.int .i64 bs)).setCell ⟨w.heap.size+1,1,none⟩ (.int .i64 bf)).setCell ⟨(VfW w s).heap.size,0,none⟩ (.int .i64 0)).setCell ⟨(VfW w s).heap.size+1,0,none⟩ (.int .i64 0)→w5.cell? ⟨w.heap.size+1,0,none⟩=some (.int .i64 bs)∧w5.cell? ⟨w.heap.size+1,1,none⟩=some (.int .i64 bf)∧w5.frozen? ⟨w.heap.size+1,0,none⟩=false∧w5.frozen? ⟨w.heap.size+1,1,none⟩=false∧Below w.heap.size w w5):=fun w1 hb w5 e5=>by
  have hlt:w.heap.size+1<(OutW (VfW w s)).heap.size:=by rw [hso];omega
  have q:∀ b,b<(VfW w s).heap.size→(OutW (VfW w s)).heap[b]?=(VfW w s).heap[b]?:=fun b hlb=>hbo.block b hlb
  have hb1:w1.heap[w.heap.size+1]?=(VfW w s).heap[w.heap.size+1]?:=(hb.block _ hlt).trans (q _ (by rw [hsz];omega))
  have a0:w1.cell? ⟨w.heap.size+1,0,none⟩=some (.int .i64 0):=(World.cell?_of_block (a:=⟨w.heap.size+1,0,none⟩) hb1).trans d0
  have a1:w1.cell? ⟨w.heap.size+1,1,none⟩=some (.int .i64 0):=(World.cell?_of_block (a:=⟨w.heap.size+1,1,none⟩) hb1).trans d1
  have af:∀ j,w1.frozen? ⟨w.heap.size+1,j,none⟩=false:=fun j=>(World.frozen?_of_block (a:=⟨w.heap.size+1,j,none⟩) hb1).trans (z j)
  have b1:(w1.setCell ⟨w.heap.size+1,0,none⟩ (.int .i64 bs)).cell? ⟨w.heap.size+1,1,none⟩=some (.int .i64 0):=by rw [zaq _ (w.heap.size+1) 0 1 _ _ a0,if_neg (by omega)];exact a1
  have b0:(w1.setCell ⟨w.heap.size+1,0,none⟩ (.int .i64 bs)).cell? ⟨w.heap.size+1,0,none⟩=some (.int .i64 bs):=World.cell?_setCell_same _ _ _ a0
  have e:w5.heap[w.heap.size+1]?=((w1.setCell ⟨w.heap.size+1,0,none⟩ (.int .i64 bs)).setCell ⟨w.heap.size+1,1,none⟩ (.int .i64 bf)).heap[w.heap.size+1]?:=by
   rw [e5,hsz]
   exact(Below.heap_setCell _ _ _ _ (by show ¬w.heap.size+1=w.heap.size+1+1+1;omega)).trans (Below.heap_setCell _ _ _ _ (by show ¬w.heap.size+1=w.heap.size+1+1;omega))
  refine⟨(World.cell?_of_block (a:=⟨w.heap.size+1,0,none⟩) e).trans ?_,(World.cell?_of_block (a:=⟨w.heap.size+1,1,none⟩) e).trans (World.cell?_setCell_same _ _ _ b1),(World.frozen?_of_block (a:=⟨w.heap.size+1,0,none⟩) e).trans ?_,(World.frozen?_of_block (a:=⟨w.heap.size+1,1,none⟩) e).trans ?_,?_⟩
  ·rw [zaq _ (w.heap.size+1) 1 0 _ _ b1,if_neg (by omega)];exact b0
  ·rw [zcL,zcL];exact af 0
  ·rw [zcL,zcL];exact af 1
  ·rw [e5,hsz]
   exact((((hbw.trans ((hbo.mono hbw.size).trans (hb.mono (by rw [hso];omega)))).setCell (p:=⟨w.heap.size+1,0,none⟩) (Nat.le_succ _) _).setCell (p:=⟨w.heap.size+1,1,none⟩) (Nat.le_succ _) _).setCell (p:=⟨w.heap.size+1+1,0,none⟩) (by show w.heap.size≤w.heap.size+1+1;omega) _).setCell (p:=⟨w.heap.size+1+1+1,0,none⟩) (by show w.heap.size≤w.heap.size+1+1+1;omega) _
 clear hbk ho0 ho1 hf0 hf1 d0 d1 z hcall
 go_enter Tryz.func26,Tryz.ntmps26
 go_wp2_with(first|(go_at_call 42;refine hout.mono ?_;rintro e w5 ⟨rfl,w1,⟨wz,hbz,hq⟩,hw5⟩;have HW5:Hid _:=hw5;clear hw5;refine Hid.out ?_))
 have hw5:=HW5.out
 clear HW5
 unfold Hid
 rw [hq] at hw5
 obtain⟨e0,e1,z0,z1,hb05⟩:=HV.out wz hbz w5 hw5
 clear hw5 hq hout HV hbo hso hbw
 go_wp2
 refine bodyPost_ret (v:=.tuple #[.agg #[.int .i64 bs,.int .i64 bf],.int .i64 0,.int .i64 0]) (by simp [results,Tryz.results26,go_sem,e0,e1]) rfl ⟨rfl,?_⟩
 exact(hb05.setCell (p:=⟨w.heap.size+1,0,none⟩) (Nat.le_succ _) _).setCell (p:=⟨w.heap.size+1,1,none⟩) (Nat.le_succ _) _
end Go.Proofs.YtfpgjkbjbbgciaaGreatDoor
