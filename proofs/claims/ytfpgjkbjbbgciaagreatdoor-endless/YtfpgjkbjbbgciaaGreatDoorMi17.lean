import Derived.Test.YtfpgjkbjbbgciaaGreatDoorMi13
import Derived.Test.YtfpgjkbjbbgciaaGreatDoorMi16
set_option maxRecDepth 100000
set_option maxHeartbeats 8000000
namespace Go.Proofs.YtfpgjkbjbbgciaaGreatDoor
section
open Go.RowKit Sp
structure MchAt(w:World)(b:Nat)(m:Mc)(bv iv ov:Value):Prop where
 mem:MchM w b bv iv ov m
 backs:w.ownsRow (b+1) 3 1 bv m.backs.length (i64s m.backs)
 out:w.ownsRow (b+1) 2 1 ov m.out.length (i64s m.out)
 inp:SlB w b iv m.inp
theorem MchAt.same{w w':World}{b:Nat}{m m2:Mc}{bv iv ov:Value}(h:MchAt w b m bv iv ov)(hM:MchM w' b bv iv ov m2)(hg:w.grownBy w' (some b))(e1:m2.backs=m.backs)(e2:m2.out=m.out)(e3:m2.inp=m.inp):
  MchAt w' b m2 bv iv ov∧Below b w w':=by
 have hb:=zfz h.mem.lt hg
 refine⟨⟨hM,?_,?_,?_⟩,hb⟩
 ·rw [e1];exact h.backs.kept hg (.inr (zcZ h.backs))
 ·rw [e2];exact h.out.kept hg (.inr (zcZ h.out))
 ·rw [e3];exact h.inp.below hb
def insT:Ins→Nat
 | .set _ _=>167|.mov _ _=>169|.alu o _ _ _=>if o=0 then 171 else if o=1 then 172 else 173|.inc _ _=>174|.load _ _=>176|.store _ _=>178
 | .read _=>180|.write _=>182|.jump _=>185|.less _ _ _=>187|.same _ _ _=>188|.call _=>190|.back=>192|.stop=>193
def insF:Ins→Nat
 | .set _ _=>223|.mov _ _=>230|.alu o _ _ _=>if o=0 then 232 else if o=1 then 239 else 243|.inc _ _=>249|.load _ _=>251|.store _ _=>256
 | .read _=>259|.write _=>262|.jump _=>265|.less _ _ _=>267|.same _ _ _=>274|.call _=>279|.back=>284|.stop=>288
def insA:Ins→Array Value
 | .set r k=>#[.int .i64 (r:Int),.int .i64 k]
 | .mov r s=>#[.int .i64 (r:Int),.int .i64 (s:Int)]
 | .alu _ r s t=>#[.int .i64 (r:Int),.int .i64 (s:Int),.int .i64 (t:Int)]
 | .inc r k=>#[.int .i64 (r:Int),.int .i64 k]
 | .load r s=>#[.int .i64 (r:Int),.int .i64 (s:Int)]
 | .store r s=>#[.int .i64 (r:Int),.int .i64 (s:Int)]
 | .read r=>#[.int .i64 (r:Int)]
 | .write r=>#[.int .i64 (r:Int)]
 | .jump to=>#[.int .i64 to]
 | .less r s to=>#[.int .i64 (r:Int),.int .i64 (s:Int),.int .i64 to]
 | .same r s to=>#[.int .i64 (r:Int),.int .i64 (s:Int),.int .i64 to]
 | .call to=>#[.int .i64 to]
 | .back=>#[]
 | .stop=>#[]
def zhn:Ins→Prop
 | .set r _=>r<8
 | .mov r s=>r<8∧s<8
 | .alu o r s t=>o≤2∧r<8∧s<8∧t<8
 | .inc r _=>r<8
 | .load r s=>r<8∧s<8
 | .store r s=>r<8∧s<8
 | .read r=>r<8
 | .write r=>r<8
 | .less r s _=>r<8∧s<8
 | .same r s _=>r<8∧s<8
 | _=>True
def zaN(i:Ins)(m:Mc):Mc:=if(exec i (m.at'+1) m).fin=1∨(exec i (m.at'+1) m).fin=2 then{ exec i (m.at'+1) m with at':=m.at' } else exec i (m.at'+1) m
theorem zag{i:Ins}{m:Mc}(h:(exec i (m.at'+1) m).fin=m.fin∨2<(exec i (m.at'+1) m).fin)(h0:m.fin=0):zaN i m=exec i (m.at'+1) m:=by
 unfold zaN;rw [if_neg (by omega)]
structure InvC(m:Mc):Prop where
 at0:0≤m.at'
 at1:m.at'≤1000
 frames:m.frames=(m.backs.length:Int)+1
 few:m.backs.length≤15
 peak:∃ p:Nat,m.peak=(p:Int)∧p≤16
 steps:0≤m.steps
 out:(m.out.length:Int)≤m.steps
def zj6(w:World)(b:Nat)(m2:Mc):Ending→World→Prop:=fun e w'=>e=.returned (.tuple #[])∧∃ bv iv ov,MchAt w' b m2 bv iv ov∧Below b w w'
theorem MchAt.done{w:World}{b f:Nat}{args:Array Value}{m m2:Mc}{bv iv ov:Value}(M:MchAt w b m bv iv ov)(e1:m2.backs=m.backs)(e2:m2.out=m.out)(e3:m2.inp=m.inp)
  (h:Calls Tryz.prog f args w fun e w'=>e=.returned (.tuple #[])∧MchM w' b bv iv ov m2∧w.grownBy w' (some b)):Calls Tryz.prog f args w (zj6 w b m2):=by
 refine h.mono ?_
 rintro e w' ⟨h1,hM,hg⟩
 obtain⟨h2,h3⟩:=M.same hM hg e1 e2 e3
 exact⟨h1,_,_,_,h2,h3⟩
theorem znh{w:World}{b r:Nat}{m:Mc}{bv iv ov:Value}(hr:r<8)(M:MchAt w b m bv iv ov)(I:InvC m)(hst:m.steps≤99999)(hin:m.inp.length≤9223372036854775807):
  Calls Tryz.prog 259 #[.agg #[.int .i64 (r:Int)],.pointer (some ⟨b,0,none⟩)] w (zj6 w b (exec (.read r) (m.at'+1) m)):=by
 have h0:=I.steps
 have ha:=I.at0
 have hb:=I.at1
 obtain⟨ao,cap,rfl,hcap,hl⟩:=M.inp
 cases hi:m.inp with
 | nil =>
  have hz:m.inp.length=0:=by rw [hi];rfl
  have hm:=M.mem
  rw [hz] at hm
  have e1:exec (.read r) (m.at'+1) m={ m with regs:=upd m.regs r 0 }.goes (m.at'+1):=by simp [exec,hi,Mc.goes]
  rw [e1]
  refine(zlj w b cap r bv ov ao m hr hm h0 (by omega) ha (by omega)).mono ?_
  rintro e w' ⟨h1,hM,hg⟩
  rw [←hz] at hM
  obtain⟨h2,h3⟩:=M.same hM hg rfl rfl rfl
  exact⟨h1,_,_,_,h2,h3⟩
 | cons x l =>
  obtain⟨g,o,rfl,hgb,hgs,hc⟩:=hl (by rw [hi];simp)
  have hz:m.inp.length=l.length+1:=by rw [hi];rfl
  have hm:=M.mem
  rw [hz] at hm
  have hx:w.cell? ⟨g,o,none⟩=some (.int .i64 x):=by
   have:=hc 0 (by omega)
   rw [Nat.add_zero] at this
   rw [this]
   simp [hi]
  have e1:exec (.read r) (m.at'+1) m={ m with regs:=upd m.regs r x,inp:=l }.goes (m.at'+1):=by simp [exec,hi,Mc.goes]
  rw [e1]
  refine(zlk w b cap r g o l.length bv ov m x l hr hm hx (by omega) (by omega) h0 (by omega) ha (by omega)).mono ?_
  rintro e w' ⟨h1,⟨o',hM,ho⟩,hg⟩
  have hB:=zfz M.mem.lt hg
  refine⟨h1,_,_,_,⟨hM,M.backs.kept hg (.inr (zcZ M.backs)),M.out.kept hg (.inr (zcZ M.out)),?_⟩,hB⟩
  refine⟨some ⟨g,o',none⟩,cap-1,rfl,by show l.length≤cap-1;omega,fun hp=>⟨g,o',rfl,hgb,Nat.lt_of_lt_of_le hgs hB.size,fun j hj=>?_⟩⟩
  rcases ho with ho|rfl
  ·have:0<l.length:=hp
   omega
  ·have hj2:j<l.length:=hj
   have:=hc (j+1) (by omega)
   rw [show o+(j+1)=o+1+j by omega] at this
   rw [(hB.cell (p:=⟨g,o+1+j,none⟩) hgb).trans this]
   simp [hi,Mc.goes]
theorem zln{w:World}{b r:Nat}{m:Mc}{bv iv ov:Value}(hr:r<8)(M:MchAt w b m bv iv ov)(I:InvC m)(hst:m.steps≤99999):
  Calls Tryz.prog 262 #[.agg #[.int .i64 (r:Int)],.pointer (some ⟨b,0,none⟩)] w (zj6 w b (exec (.write r) (m.at'+1) m)):=by
 have h0:=I.steps
 have ha:=I.at0
 have hb:=I.at1
 have hlen:=I.out
 refine(zvy w b r bv iv ov m hr M.mem M.out (by omega) h0 (by omega) ha (by omega)).mono ?_
 rintro e w' ⟨h1,v',w4,hM,how,hg4,hg⟩
 have hb4:Below b w w4:=(Below.refl b w).grown hg4 (by have:=M.mem.lt;omega) (fun q hq=>by have:=(M.out.lt q hq).1;omega)
 have hB:Below b w w':=hb4.trans ((Below.refl b w4).grown hg (by have:=hb4.size;have:=M.mem.lt;omega) (fun j hj=>by cases hj;exact Nat.le_refl _))
 refine⟨h1,_,_,_,⟨hM,?_,?_,M.inp.below hB⟩,hB⟩
 ·exact(M.backs.kept hg4 (zcU M.backs M.out (by decide))).kept hg (.inr (zcZ M.backs))
 ·have:=how.kept hg (.inr (zcZ how))
  show World.ownsRow _ (b+1) 2 1 _ (m.out++[m.regs r]).length (i64s (m.out++[m.regs r]))
  rw [List.length_append]
  exact this
theorem zni{w:World}{b:Nat}{m:Mc}{bv iv ov:Value}(to:Int)(M:MchAt w b m bv iv ov)(I:InvC m)(hfin:m.fin=0)(hst:m.steps≤99999):
  Calls Tryz.prog 279 #[.agg #[.int .i64 to],.pointer (some ⟨b,0,none⟩)] w (zj6 w b (exec (.call to) (m.at'+1) m)):=by
 have h0:=I.steps
 have ha:=I.at0
 have hb:=I.at1
 have hfr:=I.frames
 have hfew:=I.few
 obtain⟨p,hp,hp1⟩:=I.peak
 obtain⟨ao,c,rfl⟩:=zbb M.backs
 have h2:(m.fin == 2)=false:=by rw [hfin];rfl
 by_cases hf:m.frames=16
 ·have e1:exec (.call to) (m.at'+1) m={ m with fin:=4 }:=if_pos hf
  rw [e1]
  have hz:m.backs.length=15:=by omega
  have hm:=M.mem
  rw [hz] at hm
  refine(zll w b c ao iv ov m to hm h2).mono ?_
  rintro e w' ⟨h1,hM,hg⟩
  rw [←hz] at hM
  obtain⟨h2,h3⟩:=M.same hM hg rfl rfl rfl
  exact⟨h1,_,_,_,h2,h3⟩
 ·have e1:exec (.call to) (m.at'+1) m={ m with backs:=m.backs++[m.at'+1],frames:=m.frames+1,peak:=max m.peak (m.frames+1) }.goes to:=if_neg hf
  rw [e1]
  have hpk:max m.peak (m.frames+1)=max m.peak ((m.backs.length:Int)+2):=by rw [hfr,Int.add_assoc];rfl
  rw [hpk]
  refine(zpY w b c ao iv ov m to p M.mem h2 M.backs (by omega) hp hp1 h0 (by omega) ha (by omega)).mono ?_
  rintro e w' ⟨h1,g,c',w4,hM,how,hg4,hg⟩
  have hb4:Below b w w4:=(Below.refl b w).grown hg4 (by have:=M.mem.lt;omega) (fun q hq=>by have:=(M.backs.lt q hq).1;omega)
  have hB:Below b w w':=hb4.trans ((Below.refl b w4).grown hg (by have:=hb4.size;have:=M.mem.lt;omega) (fun j hj=>by cases hj;exact Nat.le_refl _))
  refine⟨h1,_,_,_,⟨hM.frames (m.frames+1),?_,?_,M.inp.below hB⟩,hB⟩
  ·have:=how.kept hg (.inr (zcZ how))
   show World.ownsRow _ (b+1) 3 1 _ (m.backs++[m.at'+1]).length (i64s (m.backs++[m.at'+1]))
   rw [List.length_append]
   exact this
  ·exact(M.out.kept hg4 (zcU M.out M.backs (by decide))).kept hg (.inr (zcZ M.out))
theorem znj{w:World}{b:Nat}{m:Mc}{bv iv ov:Value}(M:MchAt w b m bv iv ov)(I:InvC m)(hfin:m.fin=0)(hst:m.steps≤99999):
  Calls Tryz.prog 284 #[.agg #[],.pointer (some ⟨b,0,none⟩)] w (zj6 w b (zaN .back m)):=by
 have h0:=I.steps
 have hfr:=I.frames
 have hfew:=I.few
 by_cases hf:m.frames=1
 ·have hz:m.backs.length=0:=by omega
  have e0:exec .back (m.at'+1) m={ m with frames:=0,fin:=2 }.goes (-1):=if_pos hf
  have e1:zaN .back m={ m with steps:=m.steps+1,frames:=0,fin:=2 }:=by
   unfold zaN;rw [e0,if_pos (.inr rfl)];rfl
  rw [e1]
  obtain⟨ao,c,rfl⟩:=zbb M.backs
  have hm:=M.mem
  rw [hz] at hm
  refine(zng w b c ao iv ov m hm h0 (by omega)).mono ?_
  rintro e w' ⟨h1,hM,hg⟩
  rw [←hz] at hM
  obtain⟨h2,h3⟩:=M.same (hM.frames 0) hg rfl rfl rfl
  exact⟨h1,_,_,_,h2,h3⟩
 ·have e0:exec .back (m.at'+1) m={ m with frames:=m.frames-1,backs:=m.backs.dropLast }.goes (m.backs.getLastD 0):=if_neg hf
  have e1:zaN .back m={ m with frames:=m.frames-1,backs:=m.backs.dropLast }.goes (m.backs.getLastD 0):=by
   rw [zag (.inl (by rw [e0];rfl)) hfin,e0]
  rw [e1]
  obtain⟨I',x,hI⟩:∃ I x,m.backs=I++[x]:=by
   rcases List.eq_nil_or_concat m.backs with h|⟨I,x,h⟩
   ·rw [h] at hfr;simp at hfr;omega
   ·exact⟨I,x,by rw [h,List.concat_eq_append]⟩
  have hrow:=M.backs
  have hIl:m.backs.length=I'.length+1:=by rw [hI];simp
  rw [hIl] at hrow
  obtain⟨gb,c,hbv,hgb,hgl⟩:=hrow.form (by omega)
  have hcap:I'.length+1≤c:=by
   rcases hrow.2 with ⟨h',_⟩|⟨g',cap',cur,h',_,_,hnc,_⟩
   ·rw [hbv] at h';simp at h'
   ·rw [hbv] at h';simp at h';omega
  have hcell:w.cell? ⟨gb,I'.length,none⟩=some (.int .i64 x):=by
   rw [hbv] at hrow
   rw [World.ownsRow.cellAt hrow I'.length (by omega),hI]
   simp
  have hlast:m.backs.getLastD 0=x:=by rw [hI];simp
  rw [hlast]
  have hm:=M.mem
  rw [hbv] at hm
  refine(zpZ w b c gb I'.length iv ov m x m.backs.dropLast hm hcell (by omega) (by omega) hcap h0 (by omega)).mono ?_
  rintro e w' ⟨h1,hM,hg⟩
  have hb:=zfz M.mem.lt hg
  refine⟨h1,_,_,_,⟨hM.frames (m.frames-1),?_,M.out.kept hg (.inr (zcZ M.out)),M.inp.below hb⟩,hb⟩
  have hk:=hrow.kept hg (.inr (zcZ hrow))
  rw [hbv] at hk
  show World.ownsRow _ (b+1) 3 1 _ m.backs.dropLast.length (i64s m.backs.dropLast)
  rw [hI] at hk ⊢
  simp only [List.dropLast_concat]
  exact zv0 hk
theorem zzv{w:World}{b:Nat}{m:Mc}{bv iv ov:Value}(i:Ins)(hi:zhn i)(M:MchAt w b m bv iv ov)(I:InvC m)(hfin:m.fin=0)(hst:m.steps≤99999)(hin:m.inp.length≤9223372036854775807):
  Calls Tryz.prog (insF i) #[.agg (insA i),.pointer (some ⟨b,0,none⟩)] w (zj6 w b (zaN i m)):=by
 have h0:=I.steps
 have ha:=I.at0
 have hb:=I.at1
 cases i with
 | set r k=>rw [zag (.inl rfl) hfin];exact M.done rfl rfl rfl (zzk w b bv iv ov m r hi k M.mem h0 (by omega) ha (by omega))
 | mov r s=>rw [zag (.inl rfl) hfin];exact M.done rfl rfl rfl (zzl w b bv iv ov m r s hi.1 hi.2 M.mem h0 (by omega) ha (by omega))
 | alu o r s t =>
  rw [zag (.inl rfl) hfin]
  obtain⟨ho,hr,hs,ht⟩:=hi
  match o,ho with
  | 0,_=>exact M.done rfl rfl rfl (zzm w b bv iv ov m r s t hr hs ht M.mem h0 (by omega) ha (by omega))
  | 1,_=>exact M.done rfl rfl rfl (zzn w b bv iv ov m r s t hr hs ht M.mem h0 (by omega) ha (by omega))
  | 2,_=>exact M.done rfl rfl rfl (zzo w b bv iv ov m r s t hr hs ht M.mem h0 (by omega) ha (by omega))
 | inc r k=>rw [zag (.inl rfl) hfin];exact M.done rfl rfl rfl (zzp w b bv iv ov m r hi k M.mem h0 (by omega) ha (by omega))
 | load r s =>
  by_cases hn:m.regs s<0∨15<m.regs s
  ·have e1:exec (.load r s) (m.at'+1) m={ m with fin:=3 }:=if_pos hn
   have hd:=zmY w b bv iv ov m r s hi.1 hi.2 M.mem hn
   rw [zag (.inr (by rw [e1];show(2:Int)<3;decide)) hfin]
   rw [e1] at hd ⊢
   exact M.done rfl rfl rfl hd
  ·obtain⟨n,hn'⟩:=Int.eq_ofNat_of_zero_le (by omega:0≤m.regs s)
   have e1:exec (.load r s) (m.at'+1) m={ m with regs:=upd m.regs r (m.cells (m.regs s).toNat) }.goes (m.at'+1):=if_neg hn
   have hd:=zpO w b bv iv ov m r s n hi.1 hi.2 (by omega) hn' M.mem h0 (by omega) ha (by omega)
   rw [zag (.inl (by rw [e1];rfl)) hfin]
   rw [e1] at hd ⊢
   exact M.done rfl rfl rfl hd
 | store r s =>
  by_cases hn:m.regs r<0∨15<m.regs r
  ·have e1:exec (.store r s) (m.at'+1) m={ m with fin:=3 }:=if_pos hn
   have hd:=zkY w b bv iv ov m r s hi.1 hi.2 M.mem hn
   rw [zag (.inr (by rw [e1];show(2:Int)<3;decide)) hfin]
   rw [e1] at hd ⊢
   exact M.done rfl rfl rfl hd
  ·obtain⟨n,hn'⟩:=Int.eq_ofNat_of_zero_le (by omega:0≤m.regs r)
   have e1:exec (.store r s) (m.at'+1) m={ m with cells:=upd m.cells (m.regs r).toNat (m.regs s) }.goes (m.at'+1):=if_neg hn
   have hd:=zmZ w b bv iv ov m r s n hi.1 hi.2 (by omega) hn' M.mem h0 (by omega) ha (by omega)
   rw [zag (.inl (by rw [e1];rfl)) hfin]
   rw [e1] at hd ⊢
   exact M.done rfl rfl rfl hd
 | read r=>rw [zag (.inl rfl) hfin];exact znh hi M I hst hin
 | write r=>rw [zag (.inl rfl) hfin];exact zln hi M I hst
 | jump to=>rw [zag (.inl rfl) hfin];exact M.done rfl rfl rfl (zx8 w b bv iv ov m to M.mem h0 (by omega))
 | less r s to=>rw [zag (.inl rfl) hfin];exact M.done rfl rfl rfl (zx9 w b bv iv ov m r s hi.1 hi.2 to M.mem h0 (by omega) ha (by omega))
 | same r s to=>rw [zag (.inl rfl) hfin];exact M.done rfl rfl rfl (zxA w b bv iv ov m r s hi.1 hi.2 to M.mem h0 (by omega) ha (by omega))
 | call to =>
  have hc:=zni to M I hfin hst
  rw [zag ?_ hfin]
  ·exact hc
  ·simp only [exec]
   split
   ·exact .inr (by show(2:Int)<4;decide)
   ·exact .inl rfl
 | back=>exact znj M I hfin hst
 | stop =>
  have e1:zaN .stop m={ m with steps:=m.steps+1,fin:=1 }:=by
   unfold zaN;rw [show exec .stop (m.at'+1) m={ m with fin:=1 }.goes (-1) from rfl,if_pos (.inl rfl)];rfl
  rw [e1]
  exact M.done rfl rfl rfl (zxB w b bv iv ov m M.mem h0 (by omega))
end
section
open Sp
structure Kn where
 regs:Nat→Rg
 cells:Nat→Rg
 next:Int
 behind:List Int
 steps:Int
def updR(f:Nat→Rg)(i:Nat)(v:Rg):Nat→Rg:=fun j=>if j=i then v else f j
def kn0:Kn:=⟨fun _=>only 0,fun _=>only 0,0,[],0⟩
def Kn.goTo(k:Kn)(p:Int):Kn:={ k with steps:=k.steps+1,next:=p }
def zbM(r:Rg):Option (Nat × Nat):=if 0≤r.lo∧r.hi≤15 then some (r.lo.toNat,r.hi.toNat) else none
def zch(c:Nat→Rg)(a:Nat):Nat→Rg
 | 0=>c a
 | n+1=>(zch c a n).or (c (a+(n+1)))
def zaB(c:Nat→Rg)(a b:Nat)(v:Rg):Nat→Rg:=if a=b then updR c a v else fun j=>if a≤j∧j≤b then(c j).or v else c j
def zbr(k:Kn)(l r:Nat)(holds fails:Rg→Rg→Option (Rg × Rg))(label:Int):List Kn :=
 match holds (k.regs l) (k.regs r),fails (k.regs l) (k.regs r) with
 | some (a,b),some (c,d)=>[{ k with regs:=updR (updR k.regs l a) r b }.goTo label,{ k with regs:=updR (updR k.regs l c) r d }.goTo (k.next+1)]
 | some (a,b),none=>[{ k with regs:=updR (updR k.regs l a) r b }.goTo label]
 | none,some (c,d)=>[{ k with regs:=updR (updR k.regs l c) r d }.goTo (k.next+1)]
 | none,none=>[k.goTo label]
def zaw(i:Ins)(k:Kn):Option (List Kn) :=
 match i with
 | .set r n=>some [{ k with regs:=updR k.regs r (only n) }.goTo (k.next+1)]
 | .mov r s=>some [{ k with regs:=updR k.regs r (k.regs s) }.goTo (k.next+1)]
 | .alu o r s t=>some [{ k with regs:=updR k.regs r (if o=0 then(k.regs s).plus (k.regs t) else if o=1 then(if s=t then only 0 else(k.regs s).minus (k.regs t)) else(k.regs s).times (k.regs t)) }.goTo (k.next+1)]
 | .inc r n=>some [{ k with regs:=updR k.regs r ((k.regs r).plus (only n)) }.goTo (k.next+1)]
 | .load r s=>match zbM (k.regs s) with
  | none=>none
  | some (a,b)=>some [{ k with regs:=updR k.regs r (zch k.cells a (b-a)) }.goTo (k.next+1)]
 | .store r s=>match zbM (k.regs r) with
  | none=>none
  | some (a,b)=>some [{ k with cells:=zaB k.cells a b (k.regs s) }.goTo (k.next+1)]
 | .read r=>some [{ k with regs:=updR k.regs r anyR }.goTo (k.next+1)]
 | .write _=>some [k.goTo (k.next+1)]
 | .jump to=>some [k.goTo to]
 | .less l r to=>if l=r then some [k.goTo (k.next+1)] else some (zbr k l r ze6 zbk to)
 | .same l r to=>if l=r then some [k.goTo to] else some (zbr k l r ze7 za8 to)
 | .call to=>if k.behind.length+1=16 then none else some [{ k with behind:=k.behind++[k.next+1] }.goTo to]
 | .back=>match k.behind with
  | []=>some []
  | b :: r=>some [{ k with behind:=(b :: r).dropLast }.goTo ((b :: r).getLastD 0)]
 | .stop=>some []
structure Cov(k:Kn)(m:Mc):Prop where
 regs:∀ r,r<8→(k.regs r).In (m.regs r)
 cells:∀ c,c<16→(k.cells c).In (m.cells c)
 next:m.at'=k.next
 behind:m.backs=k.behind
 steps:m.steps=k.steps
structure KnOk(k:Kn):Prop where
 regs:∀ r,r<8→(k.regs r).Ok
 cells:∀ c,c<16→(k.cells c).Ok
structure Mc64(m:Mc):Prop where
 regs:∀ r,r<8→i64 (m.regs r)
 cells:∀ c,c<16→i64 (m.cells c)
 inp:∀ x∈m.inp,i64 x
def zk0:Ins→Prop
 | .set _ n=>i64 n
 | .inc _ n=>i64 n
 | _=>True
theorem zdp(f:Nat→Rg)(i:Nat)(v:Rg):updR f i v i=v:=by simp [updR]
theorem zg8(f:Nat→Rg)(i j:Nat)(v:Rg)(h:¬j=i):updR f i v j=f j:=by simp [updR,h]
theorem zi0{f:Nat→Rg}{g:Nat→Int}{n:Nat}(h:∀ r,r<n→(f r).In (g r)){i:Nat}{v:Rg}{x:Int}(hv:v.In x):∀ r,r<n→(updR f i v r).In (upd g i x r):=by
 intro r hr
 by_cases e:r=i
 ·subst e;rw [zdp,zdU];exact hv
 ·rw [zg8 _ _ _ _ e,zet _ _ _ _ e];exact h r hr
theorem zed{f:Nat→Rg}{n:Nat}(h:∀ r,r<n→(f r).Ok){i:Nat}{v:Rg}(hv:v.Ok):∀ r,r<n→(updR f i v r).Ok:=by
 intro r hr
 by_cases e:r=i
 ·subst e;rw [zdp];exact hv
 ·rw [zg8 _ _ _ _ e];exact h r hr
theorem zi1{g:Nat→Int}{n:Nat}(h:∀ r,r<n→i64 (g r)){i:Nat}{x:Int}(hx:i64 x):∀ r,r<n→i64 (upd g i x r):=by
 intro r hr
 by_cases e:r=i
 ·subst e;rw [zdU];exact hx
 ·rw [zet _ _ _ _ e];exact h r hr
theorem zh3{f:Nat→Rg}{g:Nat→Int}{n:Nat}(h:∀ r,r<n→(f r).In (g r)){i:Nat}{v:Rg}(hv:v.In (g i)):∀ r,r<n→(updR f i v r).In (g r):=by
 intro r hr
 by_cases e:r=i
 ·subst e;rw [zdp];exact hv
 ·rw [zg8 _ _ _ _ e];exact h r hr
theorem zqC{c:Nat→Rg}{g:Nat→Int}{a n j:Nat}(h1:a≤j)(h2:j≤a+n)(h:(c j).In (g j)):(zch c a n).In (g j):=by
 induction n with
 | zero =>
  have e:j=a:=by omega
  subst e;exact h
 | succ n ih =>
  by_cases e:j=a+(n+1)
  ·subst e;exact zh1 h _
  ·exact zky (ih (by omega)) _
theorem zqD{c:Nat→Rg}{a n:Nat}(h:∀ j,a≤j→j≤a+n→(c j).Ok):(zch c a n).Ok:=by
 induction n with
 | zero=>exact h a (Nat.le_refl _) (Nat.le_refl _)
 | succ n ih=>exact zwc (ih (fun j h1 h2=>h j h1 (by omega))) (h _ (by omega) (by omega))
theorem zwh{c:Nat→Rg}{g:Nat→Int}{a b j:Nat}{v:Rg}{x:Int}(h:∀ r,r<16→(c r).In (g r))(h1:a≤j)(h2:j≤b)(hv:v.In x):∀ r,r<16→(zaB c a b v r).In (upd g j x r):=by
 intro r hr
 unfold zaB
 split
 ·rename_i e
  have e2:a=j:=by omega
  rw [e2]
  exact zi0 h hv r hr
 ·dsimp only
  by_cases e:r=j
  ·subst e
   rw [if_pos ⟨h1,h2⟩,zdU]
   exact zh1 hv _
  ·rw [zet _ _ _ _ e]
   split
   ·exact zky (h r hr) _
   ·exact h r hr
theorem zwi{c:Nat→Rg}{a b:Nat}{v:Rg}(h:∀ r,r<16→(c r).Ok)(hv:v.Ok):∀ r,r<16→(zaB c a b v r).Ok:=by
 intro r hr
 unfold zaB
 split
 ·exact zed h hv r hr
 ·dsimp only
  split
  ·exact zwc (h r hr) hv
  ·exact h r hr
theorem zjO{r:Rg}{x:Int}{a b:Nat}(h:zbM r=some (a,b))(hx:r.In x):∃ j:Nat,x=(j:Int)∧j<16∧a≤j∧j≤b∧b≤15:=by
 unfold zbM at h
 unfold Rg.In at hx
 split at h
 ·rename_i hc
  simp only [Option.some.injEq,Prod.mk.injEq] at h
  obtain⟨rfl,rfl⟩:=h
  exact⟨x.toNat,by omega,by omega,by omega,by omega,by omega⟩
 ·cases h
theorem zqE{r:Rg}{a b:Nat}(h:zbM r=some (a,b))(hr:r.Ok):a≤b∧b≤15:=by
 unfold zbM at h
 unfold Rg.Ok at hr
 split at h
 ·rename_i hc
  simp only [Option.some.injEq,Prod.mk.injEq] at h
  obtain⟨rfl,rfl⟩:=h
  omega
 ·cases h
def zyk(ks:List Kn)(m:Mc):Prop:=(m.fin=0∧∃ k∈ks,Cov k m)∨m.fin=1∨m.fin=2
theorem Cov.on{k:Kn}{m m1:Mc}{ks:List Kn}(c:Cov k m){f:Nat→Rg}{g:Nat→Rg}{z:Int}(hk:{ k with regs:=f,cells:=g }.goTo z∈ks)(h0:m1.fin=0)(h1:∀ r,r<8→(f r).In (m1.regs r))(h2:∀ r,r<16→(g r).In (m1.cells r))(h3:m1.backs=m.backs)(h4:m1.steps=m.steps):
  zyk ks (m1.goes z):=.inl ⟨h0,_,hk,⟨h1,h2,rfl,by show m1.backs=k.behind;rw [h3];exact c.behind,by show m1.steps+1=k.steps+1;rw [h4,c.steps]⟩⟩
theorem zb8{α:Type}(a:α):a∈[a]:=List.mem_singleton.2 rfl
theorem zhe{k:Kn}{m:Mc}(c:Cov k m)(hfin:m.fin=0){l r:Nat}(_hl:l<8)(_hr:r<8)(hne:¬l=r){holds fails:Rg→Rg→Option (Rg × Rg)}{P:Prop} [Decidable P] {to:Int}
  (h1:P→∃ a b,holds (k.regs l) (k.regs r)=some (a,b)∧a.In (m.regs l)∧b.In (m.regs r)) (h2:¬P→∃ a b,fails (k.regs l) (k.regs r)=some (a,b)∧a.In (m.regs l)∧b.In (m.regs r)) :
  zyk (zbr k l r holds fails to) (m.goes (if P then to else m.at'+1)):=by
 have hne':¬r=l:=fun e=>hne e.symm
 by_cases hP:P
 ·rw [if_pos hP]
  obtain⟨a,b,e,ha,hb⟩:=h1 hP
  have hin:∀ q,q<8→(updR (updR k.regs l a) r b q).In (m.regs q):=zh3 (zh3 c.regs ha) hb
  unfold zbr
  rw [e]
  cases fails (k.regs l) (k.regs r) with
  | none=>exact c.on (g:=k.cells) (zb8 _) hfin hin c.cells rfl rfl
  | some q=>exact c.on (g:=k.cells) (List.mem_cons_self) hfin hin c.cells rfl rfl
 ·rw [if_neg hP]
  obtain⟨a,b,e,ha,hb⟩:=h2 hP
  have hin:∀ q,q<8→(updR (updR k.regs l a) r b q).In (m.regs q):=zh3 (zh3 c.regs ha) hb
  unfold zbr
  rw [e,c.next]
  cases holds (k.regs l) (k.regs r) with
  | none=>exact c.on (g:=k.cells) (zb8 _) hfin hin c.cells rfl rfl
  | some q=>exact c.on (g:=k.cells) (List.mem_cons_of_mem _ (zb8 _)) hfin hin c.cells rfl rfl
theorem znA{k:Kn}{m:Mc}{i:Ins}{ks:List Kn}(c:Cov k m)(K:KnOk k)(M:Mc64 m)(hi:zhn i)(h64:zk0 i)(hfin:m.fin=0)(hf:m.frames=(m.backs.length:Int)+1)(h:zaw i k=some ks):zyk ks (zaN i m):=by
 have hn:=c.next
 cases i with
 | set r n =>
  simp only [zaw,Option.some.injEq] at h
  subst h
  rw [zag (.inl rfl) hfin,show exec (.set r n) (m.at'+1) m=Mc.goes { m with regs:=upd m.regs r n } (m.at'+1) from rfl,hn]
  exact c.on (g:=k.cells) (zb8 _) hfin (zi0 c.regs (zg7 n)) c.cells rfl rfl
 | mov r s =>
  simp only [zaw,Option.some.injEq] at h
  subst h
  rw [zag (.inl rfl) hfin,show exec (.mov r s) (m.at'+1) m=Mc.goes { m with regs:=upd m.regs r (m.regs s) } (m.at'+1) from rfl,hn]
  exact c.on (g:=k.cells) (zb8 _) hfin (zi0 c.regs (c.regs s hi.2)) c.cells rfl rfl
 | alu o r s t =>
  simp only [zaw,Option.some.injEq] at h
  subst h
  obtain⟨_,hr,hs,ht⟩:=hi
  rw [zag (.inl rfl) hfin,show exec (.alu o r s t) (m.at'+1) m=Mc.goes { m with regs:=upd m.regs r (zc1 o (m.regs s) (m.regs t)) } (m.at'+1) from rfl,hn]
  refine c.on (g:=k.cells) (zb8 _) hfin (zi0 c.regs ?_) c.cells rfl rfl
  unfold zc1
  split
  ·exact ztn (K.regs s hs) (K.regs t ht) (c.regs s hs) (c.regs t ht)
  ·split
   ·split
    ·rename_i e
     subst e
     rw [show m.regs s-m.regs s=0 by omega]
     exact zg7 0
    ·exact zwd (K.regs s hs) (K.regs t ht) (c.regs s hs) (c.regs t ht)
   ·exact zwf (K.regs s hs) (K.regs t ht) (c.regs s hs) (c.regs t ht)
 | inc r n =>
  simp only [zaw,Option.some.injEq] at h
  subst h
  rw [zag (.inl rfl) hfin,show exec (.inc r n) (m.at'+1) m=Mc.goes { m with regs:=upd m.regs r (w64 (m.regs r+n)) } (m.at'+1) from rfl,hn]
  exact c.on (g:=k.cells) (zb8 _) hfin (zi0 c.regs (ztn (K.regs r hi) (ziy h64) (c.regs r hi) (zg7 n))) c.cells rfl rfl
 | load r s =>
  simp only [zaw] at h
  cases ht:zbM (k.regs s) with
  | none=>rw [ht] at h;cases h
  | some q =>
   obtain⟨a,b⟩:=q
   rw [ht] at h
   simp only [Option.some.injEq] at h
   subst h
   obtain⟨j,hj,hj16,h1,h2,_⟩:=zjO ht (c.regs s hi.2)
   have hneg:¬(m.regs s<0∨15<m.regs s):=by omega
   have e1:exec (.load r s) (m.at'+1) m={ m with regs:=upd m.regs r (m.cells (m.regs s).toNat) }.goes (m.at'+1):=if_neg hneg
   rw [zag (.inl (by rw [e1];rfl)) hfin,e1,hn,hj,Int.toNat_natCast]
   exact c.on (g:=k.cells) (zb8 _) hfin (zi0 c.regs (zqC h1 (by omega) (c.cells j hj16))) c.cells rfl rfl
 | store r s =>
  simp only [zaw] at h
  cases ht:zbM (k.regs r) with
  | none=>rw [ht] at h;cases h
  | some q =>
   obtain⟨a,b⟩:=q
   rw [ht] at h
   simp only [Option.some.injEq] at h
   subst h
   obtain⟨j,hj,hj16,h1,h2,_⟩:=zjO ht (c.regs r hi.1)
   have hneg:¬(m.regs r<0∨15<m.regs r):=by omega
   have e1:exec (.store r s) (m.at'+1) m={ m with cells:=upd m.cells (m.regs r).toNat (m.regs s) }.goes (m.at'+1):=if_neg hneg
   rw [zag (.inl (by rw [e1];rfl)) hfin,e1,hn,hj,Int.toNat_natCast]
   exact c.on (f:=k.regs) (zb8 _) hfin c.regs (zwh c.cells h1 h2 (c.regs s hi.2)) rfl rfl
 | read r =>
  simp only [zaw,Option.some.injEq] at h
  subst h
  rw [zag (.inl rfl) hfin,show exec (.read r) (m.at'+1) m=Mc.goes { m with regs:=upd m.regs r (m.inp.headD 0),inp:=m.inp.tail } (m.at'+1) from rfl,hn]
  refine c.on (g:=k.cells) (zb8 _) hfin (zi0 c.regs (ztj ?_)) c.cells rfl rfl
  cases hin:m.inp with
  | nil=>unfold i64;simp
  | cons x t=>exact M.inp x (by rw [hin];exact List.mem_cons_self)
 | write r =>
  simp only [zaw,Option.some.injEq] at h
  subst h
  rw [zag (.inl rfl) hfin,show exec (.write r) (m.at'+1) m=Mc.goes { m with out:=m.out++[m.regs r] } (m.at'+1) from rfl,hn]
  exact c.on (f:=k.regs) (g:=k.cells) (zb8 _) hfin c.regs c.cells rfl rfl
 | jump to =>
  simp only [zaw,Option.some.injEq] at h
  subst h
  rw [zag (.inl rfl) hfin,show exec (.jump to) (m.at'+1) m=Mc.goes m to from rfl]
  exact c.on (f:=k.regs) (g:=k.cells) (zb8 _) hfin c.regs c.cells rfl rfl
 | less r s to =>
  rw [zag (.inl rfl) hfin,show exec (.less r s to) (m.at'+1) m=m.goes (if m.regs r<m.regs s then to else m.at'+1) from rfl]
  simp only [zaw] at h
  split at h
  ·rename_i e
   subst e
   simp only [Option.some.injEq] at h
   subst h
   rw [if_neg (by omega),hn]
   exact c.on (f:=k.regs) (g:=k.cells) (zb8 _) hfin c.regs c.cells rfl rfl
  ·rename_i e
   simp only [Option.some.injEq] at h
   subst h
   exact zhe c hfin hi.1 hi.2 e (fun hp=>zyf (c.regs r hi.1) (c.regs s hi.2) hp) (fun hp=>zq8 (c.regs r hi.1) (c.regs s hi.2) hp)
 | same r s to =>
  rw [zag (.inl rfl) hfin,show exec (.same r s to) (m.at'+1) m=m.goes (if m.regs r=m.regs s then to else m.at'+1) from rfl]
  simp only [zaw] at h
  split at h
  ·rename_i e
   subst e
   simp only [Option.some.injEq] at h
   subst h
   rw [if_pos rfl]
   exact c.on (f:=k.regs) (g:=k.cells) (zb8 _) hfin c.regs c.cells rfl rfl
  ·rename_i e
   simp only [Option.some.injEq] at h
   subst h
   exact zhe c hfin hi.1 hi.2 e (fun hp=>zyg (c.regs r hi.1) (c.regs s hi.2) hp) (fun hp=>zq9 (c.regs r hi.1) (c.regs s hi.2) hp)
 | call to =>
  simp only [zaw] at h
  split at h
  ·cases h
  ·rename_i e
   simp only [Option.some.injEq] at h
   subst h
   have hbl:=congrArg List.length c.behind
   have h16:¬m.frames=16:=by omega
   have e1:exec (.call to) (m.at'+1) m={ m with backs:=m.backs++[m.at'+1],frames:=m.frames+1,peak:=max m.peak (m.frames+1) }.goes to:=if_neg h16
   rw [zag (.inl (by rw [e1];rfl)) hfin,e1]
   refine .inl ⟨hfin,_,zb8 _,⟨c.regs,c.cells,rfl,?_,?_⟩⟩
   ·show m.backs++[m.at'+1]=k.behind++[k.next+1]
    rw [c.behind,hn]
   ·show m.steps+1=k.steps+1
    rw [c.steps]
 | back =>
  simp only [zaw] at h
  have hb:=c.behind
  cases hbe:k.behind with
  | nil =>
   rw [hbe] at hb
   have h1:m.frames=1:=by rw [hf,hb];rfl
   refine .inr (.inr ?_)
   have e0:exec .back (m.at'+1) m={ m with frames:=0,fin:=2 }.goes (-1):=if_pos h1
   unfold zaN
   rw [e0,if_pos (.inr rfl)];rfl
  | cons b r =>
   rw [hbe] at h hb
   simp only [Option.some.injEq] at h
   subst h
   have h1:¬m.frames=1:=by rw [hf,hb];simp;omega
   have e0:exec .back (m.at'+1) m={ m with frames:=m.frames-1,backs:=m.backs.dropLast }.goes (m.backs.getLastD 0):=if_neg h1
   rw [zag (.inl (by rw [e0];rfl)) hfin,e0]
   refine .inl ⟨hfin,_,zb8 _,⟨c.regs,c.cells,?_,?_,?_⟩⟩
   ·show m.backs.getLastD 0=(b :: r).getLastD 0
    rw [hb]
   ·show m.backs.dropLast=(b :: r).dropLast
    rw [hb]
   ·show m.steps+1=k.steps+1
    rw [c.steps]
 | stop =>
  refine .inr (.inl ?_)
  unfold zaN
  rw [show exec .stop (m.at'+1) m={ m with fin:=1 }.goes (-1) from rfl,if_pos (.inl rfl)];rfl
end
section
open Go.RowKit Sp
structure KnM(w:World)(b:Nat)(bv:Value)(k:Kn):Prop where
 cR:∀ r,r<8→w.cell? ⟨b,r*2,none⟩=some (.int .i64 (k.regs r).lo)∧w.cell? ⟨b,r*2+1,none⟩=some (.int .i64 (k.regs r).hi)
 cC:∀ c,c<16→w.cell? ⟨b,16+c*2,none⟩=some (.int .i64 (k.cells c).lo)∧w.cell? ⟨b,16+c*2+1,none⟩=some (.int .i64 (k.cells c).hi)
 cN:w.cell? ⟨b,48,none⟩=some (.int .i64 k.next)
 cB:w.cell? ⟨b,49,none⟩=some bv
 cS:w.cell? ⟨b,50,none⟩=some (.int .i64 k.steps)
 fz:∀ j,w.frozen? ⟨b,j,none⟩=false
theorem KnM.lt{w:World}{b:Nat}{bv:Value}{k:Kn}(h:KnM w b bv k):b<w.heap.size:=World.block_lt_of_cell? w _ h.cN
theorem KnM.block{w w':World}{b:Nat}{bv:Value}{k:Kn}(h:KnM w b bv k)(e:w'.heap[b]?=w.heap[b]?):KnM w' b bv k:=by
 have c:∀ j,w'.cell? ⟨b,j,none⟩=w.cell? ⟨b,j,none⟩:=fun j=>World.cell?_of_block (w:=w) (a:=⟨b,j,none⟩) e
 exact⟨fun r hr=>⟨(c _).trans (h.cR r hr).1,(c _).trans (h.cR r hr).2⟩,fun r hr=>⟨(c _).trans (h.cC r hr).1,(c _).trans (h.cC r hr).2⟩,(c _).trans h.cN,(c _).trans h.cB,(c _).trans h.cS,fun j=>(World.frozen?_of_block (w:=w) (a:=⟨b,j,none⟩) e).trans (h.fz j)⟩
theorem KnM.below{w w':World}{B b:Nat}{bv:Value}{k:Kn}(h:KnM w b bv k)(hb:Below B w w')(hB:b<B):KnM w' b bv k:=h.block (hb.block b hB)
theorem KnM.alloc{w:World}{b:Nat}{bv:Value}{k:Kn}(h:KnM w b bv k)(x:Obj):KnM (w.alloc x) b bv k:=h.below (box1 (a:=x)) h.lt
theorem KnM.set{w:World}{b:Nat}{bv bv2:Value}{k k2:Kn}(h:KnM w b bv k)(n:Nat)(v u:Value)(hu:w.cell? ⟨b,n,none⟩=some u)
  (hR:∀ r,r<8→(if r*2=n then v else .int .i64 (k.regs r).lo)=.int .i64 (k2.regs r).lo∧(if r*2+1=n then v else .int .i64 (k.regs r).hi)=.int .i64 (k2.regs r).hi)
  (hC:∀ c,c<16→(if 16+c*2=n then v else .int .i64 (k.cells c).lo)=.int .i64 (k2.cells c).lo∧(if 16+c*2+1=n then v else .int .i64 (k.cells c).hi)=.int .i64 (k2.cells c).hi)
  (hN:(if 48=n then v else .int .i64 k.next)=.int .i64 k2.next) (hB:(if 49=n then v else bv)=bv2) (hS:(if 50=n then v else .int .i64 k.steps)=.int .i64 k2.steps) :
  KnM (w.setCell ⟨b,n,none⟩ v) b bv2 k2:=by
 have e:∀ j x,w.cell? ⟨b,j,none⟩=some x→(w.setCell ⟨b,n,none⟩ v).cell? ⟨b,j,none⟩=some (if j=n then v else x):=fun j x hx=>by
  rw [zaq w b n j v u hu]
  split
  ·rfl
  ·exact hx
 refine⟨fun r hr=>⟨?_,?_⟩,fun c hc=>⟨?_,?_⟩,?_,?_,?_,fun j=>zcE w _ _ j _ (h.fz j)⟩
 ·rw [e _ _ (h.cR r hr).1,(hR r hr).1]
 ·rw [e _ _ (h.cR r hr).2,(hR r hr).2]
 ·rw [e _ _ (h.cC c hc).1,(hC c hc).1]
 ·rw [e _ _ (h.cC c hc).2,(hC c hc).2]
 ·rw [e _ _ h.cN,hN]
 ·rw [e _ _ h.cB,hB]
 ·rw [e _ _ h.cS,hS]
theorem ztp{w:World}{b:Nat}{bv:Value}{k:Kn}(h:KnM w b bv k):Calls Tryz.prog 137 #[.pointer (some ⟨b,0,none⟩)] w fun e w'=>e=.returned (.int .i64 k.next)∧w'=w:=by
 have c:=h.cN
 go_enter Tryz.func137,Tryz.ntmps137
 go_wp2
 go_ret
 exact⟨rfl,rfl⟩
theorem zbI{w:World}{b:Nat}{bv:Value}{k:Kn}(h:KnM w b bv k):Calls Tryz.prog 134 #[.pointer (some ⟨b,0,none⟩)] w fun e w'=>e=.returned (.int .i64 k.steps)∧w'=w:=by
 have c:=h.cS
 go_enter Tryz.func134,Tryz.ntmps134
 go_wp2
 go_ret
 exact⟨rfl,rfl⟩
theorem zf6{w:World}{b cap:Nat}{ao:Option Addr}{k:Kn}(h:KnM w b (.slice ao k.behind.length cap) k)(hl:k.behind.length≤15):Calls Tryz.prog 136 #[.pointer (some ⟨b,0,none⟩)] w fun e w'=>e=.returned (.int .i64 ((k.behind.length:Int)+1))∧w'=w:=by
 have c:=h.cB
 go_enter Tryz.func136,Tryz.ntmps136
 go_wp2
 go_ret
 exact⟨rfl,rfl⟩
def zaQ(w:World)(b:Nat)(bv:Value)(k:Kn):Ending→World→Prop:=fun e w'=>∃ g,e=.returned (.slice (some ⟨g,0,none⟩) 1 1)∧w.heap.size≤g∧w'.cell? ⟨g,0,none⟩=some (.pointer (some ⟨b,0,none⟩))∧KnM w' b bv k∧w.grownBy w' (some b)
theorem zgb{w:World}{b:Nat}{bv:Value}{k:Kn}(h:KnM w b bv k)(z:Int)(h0:0≤k.steps)(h1:k.steps≤100000):Calls Tryz.prog 229 #[.pointer (some ⟨b,0,none⟩),.int .i64 z] w (zaQ w b bv (k.goTo z)):=by
 have c:=h.cS
 have n:=h.cN
 have f1:=h.fz 50
 have f2:=h.fz 48
 have K1:KnM (w.setCell ⟨b,50,none⟩ (.int .i64 (k.steps+1))) b bv { k with steps:=k.steps+1 }:=h.set 50 _ _ c (fun r hr=>⟨by rw [if_neg (by omega)],by rw [if_neg (by omega)]⟩) (fun r hr=>⟨by rw [if_neg (by omega)],by rw [if_neg (by omega)]⟩) (by rw [if_neg (by omega)]) (by rw [if_neg (by omega)]) (by rw [if_pos rfl])
 have K2:KnM ((w.setCell ⟨b,50,none⟩ (.int .i64 (k.steps+1))).setCell ⟨b,48,none⟩ (.int .i64 z)) b bv (k.goTo z):=K1.set 48 _ _ K1.cN (fun r hr=>⟨by rw [if_neg (by omega)];rfl,by rw [if_neg (by omega)];rfl⟩) (fun r hr=>⟨by rw [if_neg (by omega)];rfl,by rw [if_neg (by omega)];rfl⟩) (by rw [if_pos rfl];rfl) (by rw [if_neg (by omega)]) (by rw [if_neg (by omega)];rfl)
 have hlt:=h.lt
 go_enter Tryz.func229,Tryz.ntmps229
 go_wp2
 go_ret
 refine⟨w.heap.size,rfl,Nat.le_refl _,?_,K2.alloc _,?_⟩
 ·have e:((w.setCell ⟨b,50,none⟩ (.int .i64 (k.steps+1))).setCell ⟨b,48,none⟩ (.int .i64 z)).heap.size=w.heap.size:=by rw [World.size_setCell,World.size_setCell]
  rw [←e]
  exact World.cell?_alloc_new _ _ _ 0
 ·exact zae (zae (zah (Below.refl _ _)) (zah (Below.refl _ _))) (World.grownBy_alloc _ _ _)
theorem KnM.gone{w:World}{b:Nat}{bv:Value}{k:Kn}(h:KnM w b bv k)(z:Int):KnM ((w.setCell ⟨b,50,none⟩ (.int .i64 (k.steps+1))).setCell ⟨b,48,none⟩ (.int .i64 z)) b bv (k.goTo z):=by
 have K1:KnM (w.setCell ⟨b,50,none⟩ (.int .i64 (k.steps+1))) b bv { k with steps:=k.steps+1 }:=h.set 50 _ _ h.cS (fun r hr=>⟨by rw [if_neg (by omega)],by rw [if_neg (by omega)]⟩) (fun r hr=>⟨by rw [if_neg (by omega)],by rw [if_neg (by omega)]⟩) (by rw [if_neg (by omega)]) (by rw [if_neg (by omega)]) (by rw [if_pos rfl])
 exact K1.set 48 _ _ K1.cN (fun r hr=>⟨by rw [if_neg (by omega)];rfl,by rw [if_neg (by omega)];rfl⟩) (fun r hr=>⟨by rw [if_neg (by omega)];rfl,by rw [if_neg (by omega)];rfl⟩) (by rw [if_pos rfl];rfl) (by rw [if_neg (by omega)]) (by rw [if_neg (by omega)];rfl)
theorem zpq{w:World}{b:Nat}{bv:Value}{k:Kn}(h:KnM w b bv k)(z:Int):zaQ w b bv (k.goTo z) (.returned (.slice (some ⟨w.heap.size,0,none⟩) 1 1)) (((w.setCell ⟨b,50,none⟩ (.int .i64 (k.steps+1))).setCell ⟨b,48,none⟩ (.int .i64 z)).alloc (.cells #[.pointer (some ⟨b,0,none⟩)] 197)):=by
 refine⟨w.heap.size,rfl,Nat.le_refl _,?_,(h.gone z).alloc _,?_⟩
 ·have e:((w.setCell ⟨b,50,none⟩ (.int .i64 (k.steps+1))).setCell ⟨b,48,none⟩ (.int .i64 z)).heap.size=w.heap.size:=by rw [World.size_setCell,World.size_setCell]
  rw [←e]
  exact World.cell?_alloc_new _ _ _ 0
 ·exact zae (zae (zah (Below.refl _ _)) (zah (Below.refl _ _))) (World.grownBy_alloc _ _ _)
theorem zcb{w:World}{b:Nat}{bv:Value}{k:Kn}(h:KnM w b bv k)(h0:0≤k.steps)(h1:k.steps≤100000)(n0:0≤k.next)(n1:k.next≤100000):Calls Tryz.prog 227 #[.pointer (some ⟨b,0,none⟩)] w (zaQ w b bv (k.goTo (k.next+1))):=by
 have c:=h.cS
 have n:=h.cN
 have f1:=h.fz 50
 have f2:=h.fz 48
 have hlt:=h.lt
 go_enter Tryz.func227,Tryz.ntmps227
 go_wp2
 go_ret
 exact zpq h _
theorem zt0{w:World}{b cap:Nat}{ao:Option Addr}{k:Kn}(h:KnM w b (.slice ao 0 cap) k):Calls Tryz.prog 287 #[.pointer (some ⟨b,0,none⟩)] w fun e w'=>e=.returned (.slice none 0 0)∧w'=w:=by
 have c:=h.cB
 go_enter Tryz.func287,Tryz.ntmps287
 go_wp2
 go_ret
 exact⟨rfl,rfl⟩
theorem KnM.putB{w:World}{b:Nat}{bv:Value}{k:Kn}(h:KnM w b bv k)(bv2:Value)(l:List Int):KnM (w.setCell ⟨b,49,none⟩ bv2) b bv2 { k with behind:=l } :=
 h.set 49 _ _ h.cB (fun r hr=>⟨by rw [if_neg (by omega)],by rw [if_neg (by omega)]⟩) (fun r hr=>⟨by rw [if_neg (by omega)],by rw [if_neg (by omega)]⟩) (by rw [if_neg (by omega)]) (by rw [if_pos rfl]) (by rw [if_neg (by omega)])
end
section
open Go.ChangeShapes Go.WideShapes Go.ChangeAt Go.RowKit Sp
open Go.ChangeMaps (open_string shut_string)
theorem Tryz.own:ownKnob Tryz.prog.godebug=none:=by kernel_rfl
theorem gES:Tryz.prog.globalNamed "strconv.ErrSyntax" = some 3:=by kernel_rfl
theorem gER:Tryz.prog.globalNamed "strconv.ErrRange" = some 4:=by kernel_rfl
theorem zyd:(Tryz.prog.globals[3]?).map (·.type)=some 246:=by kernel_rfl
theorem zye:(Tryz.prog.globals[4]?).map (·.type)=some 246:=by kernel_rfl
theorem star : "*errors.errorString" = "*" ++ "errors.errorString":=by decide
theorem zxt (u:TypeId) (h:Tryz.prog.typeName? 3 u=some "*errors.errorString"):u=267 :=
 typeName_ptr_named (nm := "errors.errorString") (by rw [←star];kernel_rfl) (by kernel_rfl) (by decide) u (by rw [←star];exact h)
theorem zpj:Tryz.prog.cellsOf 269=1:=by kernel_rfl
theorem zxu:Tryz.prog.cellsOf 9=1:=by kernel_rfl
theorem zn8{W:World}(hL0:laidMetH Tryz.prog Rows.checksUptoRow.laid W)(hsh:W.ShapedOpen Tryz.prog):LibW W:=by
 have hL:laidMet Tryz.prog Rows.checksUptoRow.laid W:=hL0
 have hacc:=Lib.laidMet.reads hL (.tail _ (.tail _ (.tail _ (.head _))))
 have hfst:=Lib.laidMet.reads hL (.tail _ (.tail _ (.tail _ (.tail _ (.tail _ (.tail _ (.head _)))))))
 obtain⟨a0,s0,hv0,-,-,-⟩:=laid_sentinel hL.tail.tail.tail.tail gER zye Tryz.underlying246 zxt Tryz.underlying267 Tryz.underlying269 rfl rfl Tryz.underlying9 zpj zxu
 obtain⟨a1,s1,hv1,-,-,-⟩:=laid_sentinel hL.tail.tail.tail.tail.tail gES zyd Tryz.underlying246 zxt Tryz.underlying267 Tryz.underlying269 rfl rfl Tryz.underlying9 zpj zxu
 have hpf:Rows.laid_unicode_utf8_first=Lib.firstData:=Pinned.utf8First_eq
 have hpa:Rows.laid_unicode_utf8_acceptRanges=(Lib.acceptData:DataW Unit):=by kernel_rfl
 rw [hpf] at hfst
 rw [hpa] at hacc
 have htabs:Lib.Utf8Tabs 1 2 W :=
  utf8Tabs_of_reads (ρ:=Tryz.lays197_ren) { Tryz.lays197 with } ⟨by kernel_rfl,by kernel_rfl,by kernel_rfl,by kernel_rfl,by kernel_rfl,by kernel_rfl,by kernel_rfl⟩ hfst hacc
 have hmost:∃ m,W.cell? ⟨0,0,none⟩=some (.int .i64 m):=cell_of_shapedOpen_int (g:=0) (t:=3) (zero:=#[.int .i64 0]) hsh (of_decide_eq_true (by kernel_rfl)) (by kernel_rfl) rfl (by kernel_rfl) (by kernel_rfl) Tryz.underlying3
 have hlast:=Lib.laidMet.reads hL (.tail _ (.head _))
 refine⟨htabs,hmost,⟨_,_,hv1⟩,⟨_,_,hv0⟩,?_⟩
 obtain⟨g,ty,cs,fuel,pp,hg,_,hvar,_⟩:=hlast
 obtain rfl:g=7:=Option.some.inj (hg.symm.trans (show Tryz.prog.globalNamed "math/bits.deBruijn64tab" = some 7 by kernel_rfl))
 unfold World.var? at hvar
 rw [hg] at hvar
 cases hh:W.heap[7]? with
 | none=>simp [hh] at hvar
 | some o=>exact(Array.getElem?_eq_some_iff.1 hh).1
end
section
open Go.RowKit Sp
theorem KnM.putR{w:World}{b:Nat}{bv:Value}{k:Kn}(h:KnM w b bv k)(a:Nat)(ha:a<8)(v:Rg):KnM ((w.setCell ⟨b,a*2,none⟩ (.int .i64 v.lo)).setCell ⟨b,a*2+1,none⟩ (.int .i64 v.hi)) b bv { k with regs:=updR k.regs a v }:=by
 have K1:KnM (w.setCell ⟨b,a*2,none⟩ (.int .i64 v.lo)) b bv { k with regs:=updR k.regs a ⟨v.lo,(k.regs a).hi⟩ }:=h.set (a*2) _ _ (h.cR a ha).1 (fun c hc=>⟨by
  by_cases e:c=a
  ·subst e;rw [if_pos rfl];show _=Value.int .i64 (updR k.regs c ⟨v.lo,(k.regs c).hi⟩ c).lo;rw [zdp]
  ·rw [if_neg (by omega)];show _=Value.int .i64 (updR k.regs a ⟨v.lo,(k.regs a).hi⟩ c).lo;unfold updR;rw [if_neg e],by
  rw [if_neg (by omega)]
  show _=Value.int .i64 (updR k.regs a ⟨v.lo,(k.regs a).hi⟩ c).hi
  unfold updR
  by_cases e:c=a
  ·subst e;rw [if_pos rfl]
  ·rw [if_neg e]⟩) (fun r hr=>⟨by rw [if_neg (by omega)],by rw [if_neg (by omega)]⟩) (by rw [if_neg (by omega)]) (by rw [if_neg (by omega)]) (by rw [if_neg (by omega)])
 refine K1.set (a*2+1) _ _ (K1.cR a ha).2 (fun c hc=>⟨?_,?_⟩) (fun r hr=>⟨by rw [if_neg (by omega)],by rw [if_neg (by omega)]⟩) (by rw [if_neg (by omega)]) (by rw [if_neg (by omega)]) (by rw [if_neg (by omega)])
 ·rw [if_neg (by omega)]
  show Value.int .i64 (updR k.regs a ⟨v.lo,(k.regs a).hi⟩ c).lo=Value.int .i64 (updR k.regs a v c).lo
  unfold updR
  by_cases e:c=a
  ·rw [if_pos e,if_pos e]
  ·rw [if_neg e,if_neg e]
 ·show _=Value.int .i64 (updR k.regs a v c).hi
  by_cases e:c=a
  ·subst e;rw [if_pos rfl,zdp]
  ·rw [if_neg (by omega)]
   show Value.int .i64 (updR k.regs a ⟨v.lo,(k.regs a).hi⟩ c).hi=_
   unfold updR
   rw [if_neg e,if_neg e]
def zf7(w:World)(b:Nat)(bv:Value)(k:Kn)(l r:Nat)(q:Option (Rg × Rg)):Ending→World→Prop:=fun e w'=>e=.returned (.bool q.isSome)∧w.grownBy w' (some b)∧∃ x y,(∀ p,q=some p→p=(x,y))∧KnM w' b bv { k with regs:=updR (updR k.regs l x) r y }
theorem ztr{w:World}{l r:Rg}{q:Option (Rg × Rg)}{e:Ending}{w':World}(h:zd7 w l r q e w'):∃ x y,e=.returned (.tuple #[rv x,rv y,.bool q.isSome])∧(∀ p,q=some p→p=(x,y))∧Below w.heap.size w w':=by
 obtain⟨hb,h⟩:=h
 cases q with
 | none=>obtain⟨x,y,rfl⟩:=h;exact⟨x,y,rfl,fun p hp=>(by cases hp),hb⟩
 | some p=>obtain⟨x,y⟩:=p;exact⟨x,y,h,fun p hp=>(by cases hp;rfl),hb⟩
theorem zpn{F:Nat}(hfn:∀(args:Array Value) (W:World),(callFunc F args).run Tryz.prog W=.ok (.enter F args) W){w:World}{b:Nat}{bv:Value}{k:Kn}(h:KnM w b bv k)(l r:Nat)(hl:l<8)(hr:r<8)(hne:¬l=r)(q:Option (Rg × Rg))(hF:∀ W,Calls Tryz.prog F #[rv (k.regs l),rv (k.regs r)] W (zd7 W (k.regs l) (k.regs r) q)):
  Calls Tryz.prog 273 #[.pointer (some ⟨b,0,none⟩),.int .i64 (l:Int),.int .i64 (r:Int),.func (.func F) #[] #[]] w (zf7 w b bv k l r q):=by
 obtain⟨d0,d1⟩:=h.cR l hl
 obtain⟨d2,d3⟩:=h.cR r hr
 have HB:∀ W,Below w.heap.size w W→KnM W b bv k:=fun W hW=>h.below hW h.lt
 have hlt:=h.lt
 have hl0:(0:Int)≤(l:Int):=by omega
 have hl1:(l:Int)<8:=by omega
 have hr0:(0:Int)≤(r:Int):=by omega
 have hr1:(r:Int)<8:=by omega
 have n1:¬l*2=r*2:=by omega
 have n2:¬l*2+1=r*2:=by omega
 have n3:¬l*2=r*2+1:=by omega
 have n4:¬l*2+1=r*2+1:=by omega
 have n5:¬r*2=l*2:=by omega
 have n6:¬r*2+1=l*2:=by omega
 have n7:¬r*2=l*2+1:=by omega
 have n8:¬r*2+1=l*2+1:=by omega
 clear h
 go_enter Tryz.func273,Tryz.ntmps273
 go_wp2
 go_region_with(first|((with_reducible refine(hF _).mono ?_);intro e wy hy;obtain⟨x,y,rfl,hxy,hby⟩:=ztr hy;have hX:Below w.heap.size w wy:=(Below.refl _ w).drew.trans hby;have LY:=HB _ hX;have y0:=(LY.cR l hl).1;have y1:=(LY.cR l hl).2;have y2:=LY.fz (l*2);have y3:=LY.fz (l*2+1);have y4:=(LY.cR r hr).1;have y5:=(LY.cR r hr).2;have y6:=LY.fz (r*2);have y7:=LY.fz (r*2+1)))
 all_goals go_wp2
 all_goals go_ret
 all_goals exact⟨rfl,zae (zae (zae (zah hX) (zah (Below.refl _ _))) (zah (Below.refl _ _))) (zah (Below.refl _ _)),x,y,hxy,(LY.putR l hl x).putR r hr y⟩
end
end Go.Proofs.YtfpgjkbjbbgciaaGreatDoor
