import Derived.Test.YtfpgjkbjbbgciaaGreatDoorMd47
import Derived.Test.YtfpgjkbjbbgciaaGreatDoorMd48
set_option maxRecDepth 100000
set_option maxHeartbeats 8000000
namespace Go.Proofs.YtfpgjkbjbbgciaaGreatDoor
open Go.RowKit Sp
def ztM(w:World)(B S g:Nat)(C:List (Ins × Int))(cv:Value)(R:Rs)(looks:Nat)(bf:Int)(xs:List Wy)(x:Wy)(L:Option (List Kn)):Ending→World→Prop:=fun e w'=>Below B w w' ∧
 ((e=zaj 8 0∧(x.k.steps=100000∨R.kn.endless x.k=none∨L=none)) ∨
  (e=.returned (.tuple #[])∧¬x.k.steps=100000∧∃(v' mv':Value) (ys:List Wy) (R':Rs) (ks:List Kn),R.kn.endless x.k=some R'.kn∧L=some ks∧SO w' B S g C v' mv' ys [] R'.marked∧SC w' S cv v' mv' R' looks (x.k.steps+1) (max bf ((x.k.behind.length:Int)+1))∧(ys.map Wy.k).Perm (xs.map Wy.k++ks)))
theorem zvU{w:World}{B S g ccap:Nat}{C:List (Ins × Int)}{v mv:Value}{R:Rs}{looks:Nat}{bs bf:Int}{xs:List Wy}{x:Wy}(O:SO w B S g C v mv xs [x] R.marked)(c:SC w S (.slice (some ⟨g,0,none⟩) C.length ccap) v mv R looks bs bf)(hC:CodeSure C)(K:KnIn C x.k)
  (s0:0≤R.steps) (s1:R.steps≤100000) (hl:R.marked.length≤500000) (hn:R.seen≤500000) (f0:0≤bf) (f1:bf≤16) (hlen:xs.length≤2000) {p:Nat} (hp:p<C.length) (hnx:x.k.next=(p:Int)) :
  Calls Tryz.prog 116 #[.pointer (some ⟨S,0,none⟩),.pointer (some ⟨x.b,0,none⟩)] w (ztM w B S g C (.slice (some ⟨g,0,none⟩) C.length ccap) R looks bf xs x (za1 C[p].1 x.k)):=by
 have X:=O.hand x (by simp)
 have hBw:B≤w.heap.size:=by have:=O.SB;have:=O.SL;omega
 have ek:=zqC R ⟨x.ao,x.cap,x.k⟩
 by_cases e1:x.k.steps=100000
 ·refine(ztJ X.kn e1).mono ?_
  rintro e w' ⟨rfl,rfl⟩
  exact⟨Below.refl _ _,.inl ⟨rfl,.inl e1⟩⟩
 ·cases hR:R.endless ⟨x.ao,x.cap,x.k⟩ with
  | none =>
   have hend:=zgT c.rs c.fz O s0 s1 K.s0 K.s1 hl hn
   rw [hR] at hend ek
   refine(zqU X.kn e1 hend).mono ?_
   rintro e w' ⟨rfl,hb⟩
   exact⟨hb.mono hBw,.inl ⟨rfl,.inr (.inl ek)⟩⟩
  | some R' =>
   rw [hR] at ek
   refine(zxE O c hC K e1 hR s0 s1 hl hn f0 f1 hlen hp hnx rfl).mono ?_
   intro e w' h
   cases hL:za1 C[p].1 x.k with
   | none =>
    rw [hL] at h
    exact⟨h.2,.inl ⟨h.1,.inr (.inr rfl)⟩⟩
   | some ks =>
    rw [hL] at h
    obtain⟨rfl,v',mv',ys,O',c',hp',hb'⟩:=h
    exact⟨hb',.inr ⟨rfl,e1,v',mv',ys,R',ks,ek,rfl,O',c',hp'⟩⟩
def zhn(w:World)(S:Nat):Nat:=match w.cell? ⟨S,6,none⟩ with|some (.int _ n)=>n.toNat|_=>0
theorem zi0{w:World}{S n:Nat}(h:w.cell? ⟨S,6,none⟩=some (.int .i64 (n:Int))):zhn w S=n:=by unfold zhn;rw [h];simp
structure RunI(w:World)(B S g ccap:Nat)(C:List (Ins × Int))(wr:World)(v mv:Value)(xs:List Wy)(R:Rs)(looks:Nat)(bs bf:Int):Prop where
 so':SO wr B S g C v mv xs [] R.marked
 sc:SC wr S (.slice (some ⟨g,0,none⟩) C.length ccap) v mv R looks bs bf
 reach:Reach C ⟨xs.map Wy.k,looks,R.kn,bs,bf⟩
 low:Below B w wr
def zho(w:World)(B S:Nat)(C:List (Ins × Int)):Ending→World→Prop:=fun e w'=>Below B w w'∧((e=zaj 8 0∧Verd C none)∨(e=.returned (.tuple #[])∧∃ bs bf,Verd C (some (bs,bf))∧w'.cell? ⟨S,7,none⟩=some (.int .i64 bs)∧w'.cell? ⟨S,8,none⟩=some (.int .i64 bf)))
section
variable {w:World} {B S g ccap:Nat} {C:List (Ins × Int)} {wr:World} {v mv:Value} {xs:List Wy} {R:Rs} {looks:Nat} {bs bf:Int}
theorem RunI.ok(I:RunI w B S g ccap C wr v mv xs R looks bs bf)(hC:CodeSure C):GsOk C ⟨xs.map Wy.k,looks,R.kn,bs,bf⟩:=(I.reach.t hC).ok
theorem RunI.leave(I:RunI w B S g ccap C wr v mv xs R looks bs bf)(h0:xs.length=0):zho w B S C (.returned (.tuple #[])) wr:=by
 have e:xs=[]:=List.length_eq_zero_iff.1 h0
 exact⟨I.low,.inr ⟨rfl,bs,bf,⟨_,I.reach,by rw [e];rfl,rfl,rfl⟩,I.sc.c7,I.sc.c8⟩⟩
theorem RunI.tired(I:RunI w B S g ccap C wr v mv xs R looks bs bf)(h0:¬xs.length=0)(h:500000≤looks∨1000<xs.length){w':World}(hb:Below S wr w'):zho w B S C (zaj 8 0) w':=by
 refine⟨I.low.trans (hb.mono I.so'.SB),.inl ⟨rfl,⟨_,I.reach,?_,?_⟩⟩⟩
 ·intro e
  have:(xs.map Wy.k).length=0:=by rw [show xs.map Wy.k=[] from e];rfl
  rw [List.length_map] at this;omega
 ·rcases h with h|h
  ·exact .inl h
  ·exact .inr (.inl (by show 1000<(xs.map Wy.k).length;rw [List.length_map];exact h))
theorem RunI.effort(I:RunI w B S g ccap C wr v mv xs R looks bs bf):SO (wr.setCell ⟨S,6,none⟩ (.int .i64 ((looks:Int)+1))) B S g C v mv xs [] R.marked∧SC (wr.setCell ⟨S,6,none⟩ (.int .i64 ((looks:Int)+1))) S (.slice (some ⟨g,0,none⟩) C.length ccap) v mv R (looks+1) bs bf∧Below B w (wr.setCell ⟨S,6,none⟩ (.int .i64 ((looks:Int)+1))):=by
 refine⟨ztK I.so',?_,I.low.setCell (p:=⟨S,6,none⟩) I.so'.SB _⟩
 have:=I.sc.set6 (looks+1)
 rw [show(((looks+1:Nat)):Int)=(looks:Int)+1 by omega] at this
 exact this
end
theorem zvV{w:World}{B S g ccap:Nat}{C:List (Ins × Int)}{v mv:Value}{xs:List Wy}{R:Rs}{looks:Nat}{bs bf:Int}(I0:RunI w B S g ccap C w v mv xs R looks bs bf)(hC:CodeSure C):
  Calls Tryz.prog 92 #[.pointer (some ⟨S,0,none⟩)] w (zho w B S C):=by
 go_enter Tryz.func92,Tryz.ntmps92
 go_wp2
 go_loopw [] (fun wr=>∃(v mv:Value) (xs:List Wy) (R:Rs) (looks:Nat) (bs bf:Int),RunI w B S g ccap C wr v mv xs R looks bs bf) (fun wr=>500001-zhn wr S)
 case atStart=>exact⟨v,mv,xs,R,looks,bs,bf,I0⟩
 case round =>
  clear I0
  obtain⟨v,mv,xs,R,looks,bs,bf,I⟩:=hrel
  have ok:=I.ok hC
  have o1:xs.length≤1002:=by have:=ok.few;rw [List.length_map] at this;exact this
  have o2:looks≤500000:=ok.looks
  have c1:=I.sc.c1
  obtain⟨ao,cap,rfl,_,_,_⟩:=zgd I.so'.hp.row
  have hl:=fun W=>zfW W ao xs.length cap (by omega)
  by_cases h0:xs.length=0
  ·have hfin:=I.leave h0
   rw [h0] at hl c1
   clear I ok
   go_wp2_with(go_at_call 114;(with_reducible refine(hl _).mono ?_);rintro e wx ⟨rfl,hww⟩;have hw2:=hww.symm;subst hw2)
   exact bodyPost_end (results_none rfl _ _ _) rfl hfin
  ·have hpos:(0:Int)<(xs.length:Int):=by omega
   by_cases he:500000≤looks∨1000<xs.length
   ·have hef:=zte c1 I.sc.c6 (I.sc.fz 6) o2 (by omega) he
    have hfin:Hid (∀ w',Below S wr w'→zho w B S C (zaj 8 0) w'):=fun w' hb=>I.tired h0 he hb
    clear I ok he
    go_wp2_with(first
     | (go_at_call 114;(with_reducible refine(hl _).mono ?_);rintro e wx ⟨rfl,hww⟩;have hw2:=hww.symm;subst hw2)
     | (go_at_call 115;(with_reducible refine hef.mono ?_);rintro e wx ⟨rfl,hbx⟩))
    exact⟨rfl,hfin.out _ hbx⟩
   ·have hef:=ztd (looks:=looks) c1 I.sc.c6 (I.sc.fz 6) (by omega) (by omega)
    obtain⟨O1,c1',hb1⟩:=I.effort
    have htk:=zvO O1 c1' (by omega) (by omega)
    have hlc:Hid (zhn wr S=looks):=zi0 I.sc.c6
    have hrs0:0≤R.steps:=ok.rs0
    have hrs1:R.steps≤100000:=ok.rs1
    have hmk:R.marked.length≤500000:=by have:=ok.mkd;rw [show(⟨xs.map Wy.k,looks,R.kn,bs,bf⟩:Gs).R.marked.length=(R.marked.map Mk.k).length from rfl,List.length_map] at this;have:R.marked.length≤looks:=this;omega
    have hsn:R.seen≤500000:=by have:R.seen≤looks:=ok.seen;omega
    have hf0:0≤bf:=ok.bf0
    have hf1:bf≤16:=ok.bf1
    have HK:Hid (∀(x:Wy) (ys:List Wy),TakeD (xs.map Wy.k) x.k (ys.map Wy.k)→KnIn C x.k∧ys.length≤2000):=fun x ys ht=>by
     obtain⟨a,_,b,_⟩:=ht.1.kn hC.ok.few ok.kn
     refine⟨a,?_⟩
     rw [List.length_map] at b
     have:ys.length<(xs.map Wy.k).length:=b
     rw [List.length_map] at this;omega
    have HRE:Hid (Reach C ⟨xs.map Wy.k,looks,R.kn,bs,bf⟩∧¬xs.length=0∧looks<500000∧xs.length≤1000):=⟨I.reach,h0,by omega,by omega⟩
    clear I ok he O1 c1' o1 o2
    go_wp2_with(first
     | (go_at_call 114;(with_reducible refine(hl _).mono ?_);rintro e wx ⟨rfl,hww⟩;have hw2:=hww.symm;subst hw2)
     | (go_at_call 115;(with_reducible refine hef.mono ?_);rintro e wx ⟨rfl,hww⟩;have hw2:=hww.symm;subst hw2)
     | (go_at_call 117;(with_reducible refine htk.mono ?_);rintro e wt ⟨vt,ys,x,rfl,Ot,ct,td,hbt⟩)
     | (go_at_call 116;refine Hid.out ?_))
    unfold Hid
    obtain⟨kx,hyl⟩:=HK.out x ys td
    obtain⟨p,hpn,hpl⟩:=kx.next
    refine(zvU Ot ct hC kx hrs0 hrs1 hmk hsn hf0 hf1 hyl hpl hpn).mono ?_
    rintro e w3 ⟨hb3,hcase⟩
    obtain⟨re,z0,z1,z2⟩:=HRE.out
    have hb3':Below B w w3:=hb1.trans (hbt.trans hb3)
    rcases hcase with ⟨rfl,hrf⟩|⟨rfl,hn100,v',mv',zs,R',ks,hk1,hk2,O3,c3,hpm⟩
    ·dsimp only
     refine⟨rfl,hb3',.inl ⟨rfl,⟨_,re,?_,.inr (.inr ⟨x.k,ys.map Wy.k,td,?_⟩)⟩⟩⟩
     ·intro e
      have:(xs.map Wy.k).length=0:=by rw [show xs.map Wy.k=[] from e];rfl
      rw [List.length_map] at this;omega
     ·rcases hrf with h|h|h
      ·exact .inl h
      ·exact .inr (.inl h)
      ·exact .inr (.inr ⟨p,hpl,hpn,h⟩)
    ·dsimp only
     have I2:RunI w B S g ccap C w3 v' mv' zs R' (looks+1) (x.k.steps+1) (max bf ((x.k.behind.length:Int)+1)):=⟨O3,c3,.step re ⟨x.k,ys.map Wy.k,ks,p,hpl,z1,by show(xs.map Wy.k).length≤1000;rw [List.length_map];exact z2,td,hn100,hk1,hpn,hk2,hpm,rfl,rfl,rfl⟩,hb3'⟩
     go_wp2
     go_roundw
     case rel=>exact⟨v',mv',zs,R',looks+1,_,_,I2⟩
     case measure=>rw [zi0 c3.c6,hlc.out];omega
end Go.Proofs.YtfpgjkbjbbgciaaGreatDoor
