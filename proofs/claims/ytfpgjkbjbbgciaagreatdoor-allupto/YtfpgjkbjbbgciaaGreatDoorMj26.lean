import Derived.Test.YtfpgjkbjbbgciaaGreatDoorMj22
import Derived.Test.YtfpgjkbjbbgciaaGreatDoorMj25
set_option maxRecDepth 100000
set_option maxHeartbeats 8000000
namespace Go.Proofs.YtfpgjkbjbbgciaaGreatDoor
section
open Go.RowKit Sp
structure MchAt(w:World)(b:Nat)(m:Mc)(bv iv ov:Value):Prop where
 mem:MchM w b bv iv ov m
 backs:w.ownsRow (b+1) 3 1 bv m.backs.length (i64s m.backs)
 out:w.ownsRow (b+1) 2 1 ov m.out.length (i64s m.out)
 inp:SlB w b iv m.inp
theorem MchAt.same{w w':World}{b:Nat}{m m2:Mc}{bv iv ov:Value}(h:MchAt w b m bv iv ov)(hM:MchM w' b bv iv ov m2)(hg:w.grownBy w' (some b))(e1:m2.backs=m.backs)(e2:m2.out=m.out)(e3:m2.inp=m.inp):
  MchAt w' b m2 bv iv ov∧Below b w w':=by
 have a:=zdf h.mem.lt hg;refine⟨⟨hM,?_,?_,?_⟩,a⟩
 ·rw [e1];exact h.backs.kept hg (.inr (zbb h.backs))
 ·rw [e2];exact h.out.kept hg (.inr (zbb h.out))
 ·rw [e3];exact h.inp.below a
def insT:Ins→Nat
 | .set _ _=>167|.mov _ _=>169|.alu o _ _ _=>if o=0 then 171 else if o=1 then 172 else 173|.inc _ _=>174|.load _ _=>176|.store _ _=>178
 | .read _=>180|.write _=>182|.jump _=>185|.less _ _ _=>187|.same _ _ _=>188|.call _=>190|.back=>192|.stop=>193
def insF:Ins→Nat
 | .set _ _=>223|.mov _ _=>230|.alu o _ _ _=>if o=0 then 232 else if o=1 then 239 else 243|.inc _ _=>249|.load _ _=>251|.store _ _=>256
 | .read _=>259|.write _=>262|.jump _=>265|.less _ _ _=>267|.same _ _ _=>274|.call _=>279|.back=>284|.stop=>288
def insA:Ins→Array Value
 | .set r k=>#[.int .i64 (r:Int),.int .i64 k]
 | .mov r s=>#[.int .i64 (r:Int),.int .i64 (s:Int)]
 | .alu _ r s t=>#[.int .i64 (r:Int),.int .i64 (s:Int),.int .i64 (t:Int)]
 | .inc r k=>#[.int .i64 (r:Int),.int .i64 k]
 | .load r s=>#[.int .i64 (r:Int),.int .i64 (s:Int)]
 | .store r s=>#[.int .i64 (r:Int),.int .i64 (s:Int)]
 | .read r=>#[.int .i64 (r:Int)]
 | .write r=>#[.int .i64 (r:Int)]
 | .jump to=>#[.int .i64 to]
 | .less r s to=>#[.int .i64 (r:Int),.int .i64 (s:Int),.int .i64 to]
 | .same r s to=>#[.int .i64 (r:Int),.int .i64 (s:Int),.int .i64 to]
 | .call to=>#[.int .i64 to]
 | .back=>#[]
 | .stop=>#[]
def zhw:Ins→Prop
 | .set r _=>r<8
 | .mov r s=>r<8∧s<8
 | .alu o r s t=>o≤2∧r<8∧s<8∧t<8
 | .inc r _=>r<8
 | .load r s=>r<8∧s<8
 | .store r s=>r<8∧s<8
 | .read r=>r<8
 | .write r=>r<8
 | .less r s _=>r<8∧s<8
 | .same r s _=>r<8∧s<8
 | _=>True
def zba(i:Ins)(m:Mc):Mc:=if(exec i (m.at'+1) m).fin=1∨(exec i (m.at'+1) m).fin=2 then{ exec i (m.at'+1) m with at':=m.at' } else exec i (m.at'+1) m
theorem zai{i:Ins}{m:Mc}(h:(exec i (m.at'+1) m).fin=m.fin∨2<(exec i (m.at'+1) m).fin)(h0:m.fin=0):zba i m=exec i (m.at'+1) m:=by
 unfold zba;rw [if_neg (by omega)]
structure InvC(m:Mc):Prop where
 at0:0≤m.at'
 at1:m.at'≤1000
 frames:m.frames=(m.backs.length:Int)+1
 few:m.backs.length≤15
 peak:∃ p:Nat,m.peak=(p:Int)∧p≤16
 steps:0≤m.steps
 out:(m.out.length:Int)≤m.steps
def zj6(w:World)(b:Nat)(m2:Mc):Ending→World→Prop:=fun e w'=>e=.returned (.tuple #[])∧∃ bv iv ov,MchAt w' b m2 bv iv ov∧Below b w w'
theorem MchAt.done{w:World}{b f:Nat}{args:Array Value}{m m2:Mc}{bv iv ov:Value}(M:MchAt w b m bv iv ov)(e1:m2.backs=m.backs)(e2:m2.out=m.out)(e3:m2.inp=m.inp)
  (h:qC f args w fun e w'=>e=.returned (.tuple #[])∧MchM w' b bv iv ov m2∧w.grownBy w' (some b)):qC f args w (zj6 w b m2):=by
 refine h.mono ?_;rintro e w' ⟨a,g,d⟩;obtain⟨c,i⟩:=M.same g d e1 e2 e3;exact⟨a,_,_,_,c,i⟩
theorem znv{w:World}{b r:Nat}{m:Mc}{bv iv ov:Value}(hr:r<8)(M:MchAt w b m bv iv ov)(I:InvC m)(hst:m.steps≤99999)(hin:m.inp.length≤9223372036854775807):
  qC 259 #[.agg #[.int .i64 (r:Int)],.pointer (some ⟨b,0,none⟩)] w (zj6 w b (exec (.read r) (m.at'+1) m)):=by
 have q:=I.steps;have y:=I.at0;have hb:=I.at1;obtain⟨F,a,rfl,hcap,C⟩:=M.inp;cases hi:m.inp with
 | nil =>
  have t:m.inp.length=0:=by rw [hi];rfl
  have f:=M.mem;rw [t] at f;have z:exec (.read r) (m.at'+1) m={ m with regs:=upd m.regs r 0 }.goes (m.at'+1):=by simp [exec,hi,Mc.goes]
  rw [z];refine(zly w b a r bv ov F m hr f q (by omega) y (by omega)).mono ?_;rintro e D ⟨k,h,d⟩;rw [←t] at h;obtain⟨A,B⟩:=M.same h d rfl rfl rfl;exact⟨k,_,_,_,A,B⟩
 | cons x l =>
  obtain⟨g,o,rfl,c,n,s⟩:=C (by rw [hi];simp);have t:m.inp.length=l.length+1:=by rw [hi];rfl
  have f:=M.mem;rw [t] at f;have E:w.cell? ⟨g,o,none⟩=some (.int .i64 x):=by
   have:=s 0 (by omega);rw [Nat.add_zero] at this;rw [this];simp [hi]
  have z:exec (.read r) (m.at'+1) m={ m with regs:=upd m.regs r x,inp:=l }.goes (m.at'+1):=by simp [exec,hi,Mc.goes]
  rw [z];refine(zlz w b a r g o l.length bv ov m x l hr f E (by omega) (by omega) q (by omega) y (by omega)).mono ?_;rintro e D ⟨k,⟨u,h,v⟩,d⟩;have i:=zdf M.mem.lt d;refine⟨k,_,_,_,⟨h,M.backs.kept d (.inr (zbb M.backs)),M.out.kept d (.inr (zbb M.out)),?_⟩,i⟩;refine⟨some ⟨g,u,none⟩,a-1,rfl,by show l.length≤a-1;omega,fun hp=>⟨g,u,rfl,c,Nat.lt_of_lt_of_le n i.size,fun j hj=>?_⟩⟩;rcases v with v|rfl
  ·have:0<l.length:=hp;omega
  ·have hj2:j<l.length:=hj;have:=s (j+1) (by omega);rw [show o+(j+1)=o+1+j by omega] at this;rw [(i.cell (p:=⟨g,o+1+j,none⟩) c).trans this];simp [hi,Mc.goes]
theorem zl1{w:World}{b r:Nat}{m:Mc}{bv iv ov:Value}(hr:r<8)(M:MchAt w b m bv iv ov)(I:InvC m)(hst:m.steps≤99999):
  qC 262 #[.agg #[.int .i64 (r:Int)],.pointer (some ⟨b,0,none⟩)] w (zj6 w b (exec (.write r) (m.at'+1) m)):=by
 have l:=I.steps;have o:=I.at0;have hb:=I.at1;have hlen:=I.out;refine(zvM w b r bv iv ov m hr M.mem M.out (by omega) l (by omega) o (by omega)).mono ?_;rintro e i ⟨k,v',h,n,c,d,f⟩;have a:Below b w h:=(Below.refl b w).grown d (by have:=M.mem.lt;omega) (fun q hq=>by have:=(M.out.lt q hq).1;omega);have g:Below b w i:=a.trans ((Below.refl b h).grown f (by have:=a.size;have:=M.mem.lt;omega) (fun j hj=>by cases hj;exact Nat.le_refl _));refine⟨k,_,_,_,⟨n,?_,?_,M.inp.below g⟩,g⟩
 ·exact(M.backs.kept d (zdZ M.backs M.out (by decide))).kept f (.inr (zbb M.backs))
 ·have:=c.kept f (.inr (zbb c));show World.ownsRow _ (b+1) 2 1 _ (m.out++[m.regs r]).length (i64s (m.out++[m.regs r]));rw [List.length_append];exact this
theorem znw{w:World}{b:Nat}{m:Mc}{bv iv ov:Value}(to:Int)(M:MchAt w b m bv iv ov)(I:InvC m)(hfin:m.fin=0)(hst:m.steps≤99999):
  qC 279 #[.agg #[.int .i64 to],.pointer (some ⟨b,0,none⟩)] w (zj6 w b (exec (.call to) (m.at'+1) m)):=by
 have y:=I.steps;have C:=I.at0;have hb:=I.at1;have hfr:=I.frames;have hfew:=I.few;obtain⟨p,B,n⟩:=I.peak;obtain⟨u,c,rfl⟩:=zb7 M.backs;have k:(m.fin == 2)=false:=by rw [hfin];rfl
 by_cases t:m.frames=16
 ·have x:exec (.call to) (m.at'+1) m={ m with fin:=4 }:=if_pos t;rw [x];have z:m.backs.length=15:=by omega
  have v:=M.mem;rw [z] at v;refine(zl0 w b c u iv ov m to v k).mono ?_;rintro e s ⟨l,i,h⟩;rw [←z] at i;obtain⟨k,A⟩:=M.same i h rfl rfl rfl;exact⟨l,_,_,_,k,A⟩
 ·have x:exec (.call to) (m.at'+1) m={ m with backs:=m.backs++[m.at'+1],frames:=m.frames+1,peak:=max m.peak (m.frames+1) }.goes to:=if_neg t;rw [x];have hpk:max m.peak (m.frames+1)=max m.peak ((m.backs.length:Int)+2):=by rw [hfr,Int.add_assoc];rfl
  rw [hpk];refine(zqx w b c u iv ov m to p M.mem k M.backs (by omega) B n y (by omega) C (by omega)).mono ?_;rintro e s ⟨l,g,c',r,i,a,d,h⟩;have f:Below b w r:=(Below.refl b w).grown d (by have:=M.mem.lt;omega) (fun q hq=>by have:=(M.backs.lt q hq).1;omega);have o:Below b w s:=f.trans ((Below.refl b r).grown h (by have:=f.size;have:=M.mem.lt;omega) (fun j hj=>by cases hj;exact Nat.le_refl _));refine⟨l,_,_,_,⟨i.frames (m.frames+1),?_,?_,M.inp.below o⟩,o⟩
  ·have:=a.kept h (.inr (zbb a));show World.ownsRow _ (b+1) 3 1 _ (m.backs++[m.at'+1]).length (i64s (m.backs++[m.at'+1]));rw [List.length_append];exact this
  ·exact(M.out.kept d (zdZ M.out M.backs (by decide))).kept h (.inr (zbb M.out))
theorem znx{w:World}{b:Nat}{m:Mc}{bv iv ov:Value}(M:MchAt w b m bv iv ov)(I:InvC m)(hfin:m.fin=0)(hst:m.steps≤99999):
  qC 284 #[.agg #[],.pointer (some ⟨b,0,none⟩)] w (zj6 w b (zba .back m)):=by
 have r:=I.steps;have i:=I.frames;have hfew:=I.few;by_cases u:m.frames=1
 ·have z:m.backs.length=0:=by omega
  have t:exec .back (m.at'+1) m={ m with frames:=0,fin:=2 }.goes (-1):=if_pos u;have v:zba .back m={ m with steps:=m.steps+1,frames:=0,fin:=2 }:=by
   unfold zba;rw [t,if_pos (.inr rfl)];rfl
  rw [v];obtain⟨D,c,rfl⟩:=zb7 M.backs;have l:=M.mem;rw [z] at l;refine(znu w b c D iv ov m l r (by omega)).mono ?_;rintro e C ⟨p,n,j⟩;rw [←z] at n;obtain⟨y,A⟩:=M.same (n.frames 0) j rfl rfl rfl;exact⟨p,_,_,_,y,A⟩
 ·have t:exec .back (m.at'+1) m={ m with frames:=m.frames-1,backs:=m.backs.dropLast }.goes (m.backs.getLastD 0):=if_neg u;have v:zba .back m={ m with frames:=m.frames-1,backs:=m.backs.dropLast }.goes (m.backs.getLastD 0):=by
   rw [zai (.inl (by rw [t];rfl)) hfin,t]
  rw [v];obtain⟨k,x,B⟩:∃ I x,m.backs=I++[x]:=by
   rcases List.eq_nil_or_concat m.backs with h|⟨I,x,h⟩
   ·rw [h] at i;simp at i;omega
   ·exact⟨I,x,by rw [h,List.concat_eq_append]⟩
  have a:=M.backs;have hIl:m.backs.length=k.length+1:=by rw [B];simp
  rw [hIl] at a;obtain⟨s,c,hbv,hgb,hgl⟩:=a.form (by omega);have g:k.length+1≤c:=by
   rcases a.2 with ⟨f,_⟩|⟨g',cap',cur,f,_,_,hnc,_⟩
   ·rw [hbv] at f;simp at f
   ·rw [hbv] at f;simp at f;omega
  have d:w.cell? ⟨s,k.length,none⟩=some (.int .i64 x):=by
   rw [hbv] at a;rw [World.ownsRow.cellAt a k.length (by omega),B];simp
  have hlast:m.backs.getLastD 0=x:=by rw [B];simp
  rw [hlast];have l:=M.mem;rw [hbv] at l;refine(zqy w b c s k.length iv ov m x m.backs.dropLast l d (by omega) (by omega) g r (by omega)).mono ?_;rintro e C ⟨p,n,j⟩;have q:=zdf M.mem.lt j;refine⟨p,_,_,_,⟨n.frames (m.frames-1),?_,M.out.kept j (.inr (zbb M.out)),M.inp.below q⟩,q⟩;have o:=a.kept j (.inr (zbb a));rw [hbv] at o;show World.ownsRow _ (b+1) 3 1 _ m.backs.dropLast.length (i64s m.backs.dropLast);rw [B] at o ⊢;simp only [List.dropLast_concat];exact zoF o
theorem zzm{w:World}{b:Nat}{m:Mc}{bv iv ov:Value}(i:Ins)(hi:zhw i)(M:MchAt w b m bv iv ov)(I:InvC m)(hfin:m.fin=0)(hst:m.steps≤99999)(hin:m.inp.length≤9223372036854775807):
  qC (insF i) #[.agg (insA i),.pointer (some ⟨b,0,none⟩)] w (zj6 w b (zba i m)):=by
 have a:=I.steps;have d:=I.at0;have hb:=I.at1;cases i with
 | set r k=>rw [zai (.inl rfl) hfin];exact M.done rfl rfl rfl (zyY w b bv iv ov m r hi k M.mem a (by omega) d (by omega))
 | mov r s=>rw [zai (.inl rfl) hfin];exact M.done rfl rfl rfl (zyZ w b bv iv ov m r s hi.1 hi.2 M.mem a (by omega) d (by omega))
 | alu o r s t =>
  rw [zai (.inl rfl) hfin];obtain⟨p,j,h,l⟩:=hi
  match o,p with
  | 0,_=>exact M.done rfl rfl rfl (zza w b bv iv ov m r s t j h l M.mem a (by omega) d (by omega))
  | 1,_=>exact M.done rfl rfl rfl (zzb w b bv iv ov m r s t j h l M.mem a (by omega) d (by omega))
  | 2,_=>exact M.done rfl rfl rfl (zzc w b bv iv ov m r s t j h l M.mem a (by omega) d (by omega))
 | inc r k=>rw [zai (.inl rfl) hfin];exact M.done rfl rfl rfl (zzd w b bv iv ov m r hi k M.mem a (by omega) d (by omega))
 | load r s =>
  by_cases f:m.regs s<0∨15<m.regs s
  ·have g:exec (.load r s) (m.at'+1) m={ m with fin:=3 }:=if_pos f;have c:=znm w b bv iv ov m r s hi.1 hi.2 M.mem f;rw [zai (.inr (by rw [g];show(2:Int)<3;decide)) hfin];rw [g] at c ⊢;exact M.done rfl rfl rfl c
  ·obtain⟨n,e⟩:=Int.eq_ofNat_of_zero_le (by omega:0≤m.regs s);have g:exec (.load r s) (m.at'+1) m={ m with regs:=upd m.regs r (m.cells (m.regs s).toNat) }.goes (m.at'+1):=if_neg f;have c:=zqk w b bv iv ov m r s n hi.1 hi.2 (by omega) e M.mem a (by omega) d (by omega);rw [zai (.inl (by rw [g];rfl)) hfin];rw [g] at c ⊢;exact M.done rfl rfl rfl c
 | store r s =>
  by_cases f:m.regs r<0∨15<m.regs r
  ·have g:exec (.store r s) (m.at'+1) m={ m with fin:=3 }:=if_pos f;have c:=zll w b bv iv ov m r s hi.1 hi.2 M.mem f;rw [zai (.inr (by rw [g];show(2:Int)<3;decide)) hfin];rw [g] at c ⊢;exact M.done rfl rfl rfl c
  ·obtain⟨n,e⟩:=Int.eq_ofNat_of_zero_le (by omega:0≤m.regs r);have g:exec (.store r s) (m.at'+1) m={ m with cells:=upd m.cells (m.regs r).toNat (m.regs s) }.goes (m.at'+1):=if_neg f;have c:=znn w b bv iv ov m r s n hi.1 hi.2 (by omega) e M.mem a (by omega) d (by omega);rw [zai (.inl (by rw [g];rfl)) hfin];rw [g] at c ⊢;exact M.done rfl rfl rfl c
 | read r=>rw [zai (.inl rfl) hfin];exact znv hi M I hst hin
 | write r=>rw [zai (.inl rfl) hfin];exact zl1 hi M I hst
 | jump to=>rw [zai (.inl rfl) hfin];exact M.done rfl rfl rfl (zxB w b bv iv ov m to M.mem a (by omega))
 | less r s to=>rw [zai (.inl rfl) hfin];exact M.done rfl rfl rfl (zxC w b bv iv ov m r s hi.1 hi.2 to M.mem a (by omega) d (by omega))
 | same r s to=>rw [zai (.inl rfl) hfin];exact M.done rfl rfl rfl (zxD w b bv iv ov m r s hi.1 hi.2 to M.mem a (by omega) d (by omega))
 | call to =>
  have q:=znw to M I hfin hst;rw [zai ?_ hfin]
  ·exact q
  ·simp only [exec];split
   ·exact .inr (by show(2:Int)<4;decide)
   ·exact .inl rfl
 | back=>exact znx M I hfin hst
 | stop =>
  have g:zba .stop m={ m with steps:=m.steps+1,fin:=1 }:=by
   unfold zba;rw [show exec .stop (m.at'+1) m={ m with fin:=1 }.goes (-1) from rfl,if_pos (.inl rfl)];rfl
  rw [g];exact M.done rfl rfl rfl (zxE w b bv iv ov m M.mem a (by omega))
end
section
open Sp
structure Kn where
 regs:Nat→Rg
 cells:Nat→Rg
 next:Int
 behind:List Int
 steps:Int
def updR(f:Nat→Rg)(i:Nat)(v:Rg):Nat→Rg:=fun j=>if j=i then v else f j
def kn0:Kn:=⟨fun _=>only 0,fun _=>only 0,0,[],0⟩
def Kn.goTo(k:Kn)(p:Int):Kn:={ k with steps:=k.steps+1,next:=p }
def zcm(r:Rg):Option (Nat × Nat):=if 0≤r.lo∧r.hi≤15 then some (r.lo.toNat,r.hi.toNat) else none
def zc4(c:Nat→Rg)(a:Nat):Nat→Rg
 | 0=>c a
 | n+1=>(zc4 c a n).or (c (a+(n+1)))
def zaP(c:Nat→Rg)(a b:Nat)(v:Rg):Nat→Rg:=if a=b then updR c a v else fun j=>if a≤j∧j≤b then(c j).or v else c j
def zbE(k:Kn)(l r:Nat)(holds fails:Rg→Rg→Option (Rg × Rg))(label:Int):List Kn :=
 match holds (k.regs l) (k.regs r),fails (k.regs l) (k.regs r) with
 | some (a,b),some (c,d)=>[{ k with regs:=updR (updR k.regs l a) r b }.goTo label,{ k with regs:=updR (updR k.regs l c) r d }.goTo (k.next+1)]
 | some (a,b),none=>[{ k with regs:=updR (updR k.regs l a) r b }.goTo label]
 | none,some (c,d)=>[{ k with regs:=updR (updR k.regs l c) r d }.goTo (k.next+1)]
 | none,none=>[k.goTo label]
def za7(i:Ins)(k:Kn):Option (List Kn) :=
 match i with
 | .set r n=>some [{ k with regs:=updR k.regs r (only n) }.goTo (k.next+1)]
 | .mov r s=>some [{ k with regs:=updR k.regs r (k.regs s) }.goTo (k.next+1)]
 | .alu o r s t=>some [{ k with regs:=updR k.regs r (if o=0 then(k.regs s).plus (k.regs t) else if o=1 then(if s=t then only 0 else(k.regs s).minus (k.regs t)) else(k.regs s).times (k.regs t)) }.goTo (k.next+1)]
 | .inc r n=>some [{ k with regs:=updR k.regs r ((k.regs r).plus (only n)) }.goTo (k.next+1)]
 | .load r s=>match zcm (k.regs s) with
  | none=>none
  | some (a,b)=>some [{ k with regs:=updR k.regs r (zc4 k.cells a (b-a)) }.goTo (k.next+1)]
 | .store r s=>match zcm (k.regs r) with
  | none=>none
  | some (a,b)=>some [{ k with cells:=zaP k.cells a b (k.regs s) }.goTo (k.next+1)]
 | .read r=>some [{ k with regs:=updR k.regs r anyR }.goTo (k.next+1)]
 | .write _=>some [k.goTo (k.next+1)]
 | .jump to=>some [k.goTo to]
 | .less l r to=>if l=r then some [k.goTo (k.next+1)] else some (zbE k l r zeQ zb4 to)
 | .same l r to=>if l=r then some [k.goTo to] else some (zbE k l r zeR zaM to)
 | .call to=>if k.behind.length+1=16 then none else some [{ k with behind:=k.behind++[k.next+1] }.goTo to]
 | .back=>match k.behind with
  | []=>some []
  | b :: r=>some [{ k with behind:=(b :: r).dropLast }.goTo ((b :: r).getLastD 0)]
 | .stop=>some []
structure Cov(k:Kn)(m:Mc):Prop where
 regs:∀ r,r<8→(k.regs r).In (m.regs r)
 cells:∀ c,c<16→(k.cells c).In (m.cells c)
 next:m.at'=k.next
 behind:m.backs=k.behind
 steps:m.steps=k.steps
structure KnOk(k:Kn):Prop where
 regs:∀ r,r<8→(k.regs r).Ok
 cells:∀ c,c<16→(k.cells c).Ok
structure Mc64(m:Mc):Prop where
 regs:∀ r,r<8→i64 (m.regs r)
 cells:∀ c,c<16→i64 (m.cells c)
 inp:∀ x∈m.inp,i64 x
def zkJ:Ins→Prop
 | .set _ n=>i64 n
 | .inc _ n=>i64 n
 | _=>True
theorem zdD(f:Nat→Rg)(i:Nat)(v:Rg):updR f i v i=v:=by simp [updR]
theorem zgT(f:Nat→Rg)(i j:Nat)(v:Rg)(h:¬j=i):updR f i v j=f j:=by simp [updR,h]
theorem ziA{f:Nat→Rg}{g:Nat→Int}{n:Nat}(h:∀ r,r<n→(f r).In (g r)){i:Nat}{v:Rg}{x:Int}(hv:v.In x):∀ r,r<n→(updR f i v r).In (upd g i x r):=by
 intro r a;by_cases e:r=i
 ·subst e;rw [zdD,zeq];exact hv
 ·rw [zgT _ _ _ _ e,zd9 _ _ _ _ e];exact h r a
theorem ze1{f:Nat→Rg}{n:Nat}(h:∀ r,r<n→(f r).Ok){i:Nat}{v:Rg}(hv:v.Ok):∀ r,r<n→(updR f i v r).Ok:=by
 intro r a;by_cases e:r=i
 ·subst e;rw [zdD];exact hv
 ·rw [zgT _ _ _ _ e];exact h r a
theorem ziB{g:Nat→Int}{n:Nat}(h:∀ r,r<n→i64 (g r)){i:Nat}{x:Int}(hx:i64 x):∀ r,r<n→i64 (upd g i x r):=by
 intro r a;by_cases e:r=i
 ·subst e;rw [zeq];exact hx
 ·rw [zd9 _ _ _ _ e];exact h r a
theorem zhC{f:Nat→Rg}{g:Nat→Int}{n:Nat}(h:∀ r,r<n→(f r).In (g r)){i:Nat}{v:Rg}(hv:v.In (g i)):∀ r,r<n→(updR f i v r).In (g r):=by
 intro r a;by_cases e:r=i
 ·subst e;rw [zdD];exact hv
 ·rw [zgT _ _ _ _ e];exact h r a
theorem zrg{c:Nat→Rg}{g:Nat→Int}{a n j:Nat}(h1:a≤j)(h2:j≤a+n)(h:(c j).In (g j)):(zc4 c a n).In (g j):=by
 induction n with
 | zero =>
  have e:j=a:=by omega
  subst e;exact h
 | succ n ih =>
  by_cases e:j=a+(n+1)
  ·subst e;exact zhA h _
  ·exact zkH (ih (by omega)) _
theorem zrh{c:Nat→Rg}{a n:Nat}(h:∀ j,a≤j→j≤a+n→(c j).Ok):(zc4 c a n).Ok:=by
 induction n with
 | zero=>exact h a (Nat.le_refl _) (Nat.le_refl _)
 | succ n ih=>exact zw5 (ih (fun j h1 h2=>h j h1 (by omega))) (h _ (by omega) (by omega))
theorem zwA{c:Nat→Rg}{g:Nat→Int}{a b j:Nat}{v:Rg}{x:Int}(h:∀ r,r<16→(c r).In (g r))(h1:a≤j)(h2:j≤b)(hv:v.In x):∀ r,r<16→(zaP c a b v r).In (upd g j x r):=by
 intro r d;unfold zaP;split
 ·rename_i e;have e2:a=j:=by omega
  rw [e2];exact ziA h hv r d
 ·dsimp only;by_cases e:r=j
  ·subst e;rw [if_pos ⟨h1,h2⟩,zeq];exact zhA hv _
  ·rw [zd9 _ _ _ _ e];split
   ·exact zkH (h r d) _
   ·exact h r d
theorem zwB{c:Nat→Rg}{a b:Nat}{v:Rg}(h:∀ r,r<16→(c r).Ok)(hv:v.Ok):∀ r,r<16→(zaP c a b v r).Ok:=by
 intro r d;unfold zaP;split
 ·exact ze1 h hv r d
 ·dsimp only;split
  ·exact zw5 (h r d) hv
  ·exact h r d
theorem zjW{r:Rg}{x:Int}{a b:Nat}(h:zcm r=some (a,b))(hx:r.In x):∃ j:Nat,x=(j:Int)∧j<16∧a≤j∧j≤b∧b≤15:=by
 unfold zcm at h;unfold Rg.In at hx;split at h
 ·rename_i hc;simp only [Option.some.injEq,Prod.mk.injEq] at h;obtain⟨rfl,rfl⟩:=h;exact⟨x.toNat,by omega,by omega,by omega,by omega,by omega⟩
 ·cases h
theorem zri{r:Rg}{a b:Nat}(h:zcm r=some (a,b))(hr:r.Ok):a≤b∧b≤15:=by
 unfold zcm at h;unfold Rg.Ok at hr;split at h
 ·rename_i hc;simp only [Option.some.injEq,Prod.mk.injEq] at h;obtain⟨rfl,rfl⟩:=h;omega
 ·cases h
def zy5(ks:List Kn)(m:Mc):Prop:=(m.fin=0∧∃ k∈ks,Cov k m)∨m.fin=1∨m.fin=2
theorem Cov.on{k:Kn}{m m1:Mc}{ks:List Kn}(c:Cov k m){f:Nat→Rg}{g:Nat→Rg}{z:Int}(hk:{ k with regs:=f,cells:=g }.goTo z∈ks)(h0:m1.fin=0)(h1:∀ r,r<8→(f r).In (m1.regs r))(h2:∀ r,r<16→(g r).In (m1.cells r))(h3:m1.backs=m.backs)(h4:m1.steps=m.steps):
  zy5 ks (m1.goes z):=.inl ⟨h0,_,hk,⟨h1,h2,rfl,by show m1.backs=k.behind;rw [h3];exact c.behind,by show m1.steps+1=k.steps+1;rw [h4,c.steps]⟩⟩
theorem zbV{α:Type}(a:α):a∈[a]:=List.mem_singleton.2 rfl
theorem zho{k:Kn}{m:Mc}(c:Cov k m)(hfin:m.fin=0){l r:Nat}(_hl:l<8)(_hr:r<8)(hne:¬l=r){holds fails:Rg→Rg→Option (Rg × Rg)}{P:Prop} [Decidable P] {to:Int}
  (h1:P→∃ a b,holds (k.regs l) (k.regs r)=some (a,b)∧a.In (m.regs l)∧b.In (m.regs r)) (h2:¬P→∃ a b,fails (k.regs l) (k.regs r)=some (a,b)∧a.In (m.regs l)∧b.In (m.regs r)) :
  zy5 (zbE k l r holds fails to) (m.goes (if P then to else m.at'+1)):=by
 have hne':¬r=l:=fun e=>hne e.symm;by_cases f:P
 ·rw [if_pos f];obtain⟨a,b,e,i,h⟩:=h1 f;have d:∀ q,q<8→(updR (updR k.regs l a) r b q).In (m.regs q):=zhC (zhC c.regs i) h;unfold zbE;rw [e];cases fails (k.regs l) (k.regs r) with
  | none=>exact c.on (g:=k.cells) (zbV _) hfin d c.cells rfl rfl
  | some q=>exact c.on (g:=k.cells) (List.mem_cons_self) hfin d c.cells rfl rfl
 ·rw [if_neg f];obtain⟨a,b,e,i,h⟩:=h2 f;have d:∀ q,q<8→(updR (updR k.regs l a) r b q).In (m.regs q):=zhC (zhC c.regs i) h;unfold zbE;rw [e,c.next];cases holds (k.regs l) (k.regs r) with
  | none=>exact c.on (g:=k.cells) (zbV _) hfin d c.cells rfl rfl
  | some q=>exact c.on (g:=k.cells) (List.mem_cons_of_mem _ (zbV _)) hfin d c.cells rfl rfl
theorem znQ{k:Kn}{m:Mc}{i:Ins}{ks:List Kn}(c:Cov k m)(K:KnOk k)(M:Mc64 m)(hi:zhw i)(h64:zkJ i)(hfin:m.fin=0)(hf:m.frames=(m.backs.length:Int)+1)(h:za7 i k=some ks):zy5 ks (zba i m):=by
 have p:=c.next;cases i with
 | set r n =>
  simp only [za7,Option.some.injEq] at h;subst h;rw [zai (.inl rfl) hfin,show exec (.set r n) (m.at'+1) m=Mc.goes { m with regs:=upd m.regs r n } (m.at'+1) from rfl,p];exact c.on (g:=k.cells) (zbV _) hfin (ziA c.regs (zgS n)) c.cells rfl rfl
 | mov r s =>
  simp only [za7,Option.some.injEq] at h;subst h;rw [zai (.inl rfl) hfin,show exec (.mov r s) (m.at'+1) m=Mc.goes { m with regs:=upd m.regs r (m.regs s) } (m.at'+1) from rfl,p];exact c.on (g:=k.cells) (zbV _) hfin (ziA c.regs (c.regs s hi.2)) c.cells rfl rfl
 | alu o r s t =>
  simp only [za7,Option.some.injEq] at h;subst h;obtain⟨_,hr,w,l⟩:=hi;rw [zai (.inl rfl) hfin,show exec (.alu o r s t) (m.at'+1) m=Mc.goes { m with regs:=upd m.regs r (zby o (m.regs s) (m.regs t)) } (m.at'+1) from rfl,p];refine c.on (g:=k.cells) (zbV _) hfin (ziA c.regs ?_) c.cells rfl rfl;unfold zby
  split
  ·exact ztZ (K.regs s w) (K.regs t l) (c.regs s w) (c.regs t l)
  ·split
   ·split
    ·rename_i e;subst e;rw [show m.regs s-m.regs s=0 by omega];exact zgS 0
    ·exact zw6 (K.regs s w) (K.regs t l) (c.regs s w) (c.regs t l)
   ·exact zw8 (K.regs s w) (K.regs t l) (c.regs s w) (c.regs t l)
 | inc r n =>
  simp only [za7,Option.some.injEq] at h;subst h;rw [zai (.inl rfl) hfin,show exec (.inc r n) (m.at'+1) m=Mc.goes { m with regs:=upd m.regs r (w64 (m.regs r+n)) } (m.at'+1) from rfl,p];exact c.on (g:=k.cells) (zbV _) hfin (ziA c.regs (ztZ (K.regs r hi) (zi8 h64) (c.regs r hi) (zgS n))) c.cells rfl rfl
 | load r s =>
  simp only [za7] at h;cases l:zcm (k.regs s) with
  | none=>rw [l] at h;cases h
  | some q =>
   obtain⟨a,b⟩:=q;rw [l] at h;simp only [Option.some.injEq] at h;subst h;obtain⟨j,B,u,v,C,_⟩:=zjW l (c.regs s hi.2);have d:¬(m.regs s<0∨15<m.regs s):=by omega
   have y:exec (.load r s) (m.at'+1) m={ m with regs:=upd m.regs r (m.cells (m.regs s).toNat) }.goes (m.at'+1):=if_neg d;rw [zai (.inl (by rw [y];rfl)) hfin,y,p,B,Int.toNat_natCast];exact c.on (g:=k.cells) (zbV _) hfin (ziA c.regs (zrg v (by omega) (c.cells j u))) c.cells rfl rfl
 | store r s =>
  simp only [za7] at h;cases l:zcm (k.regs r) with
  | none=>rw [l] at h;cases h
  | some q =>
   obtain⟨a,b⟩:=q;rw [l] at h;simp only [Option.some.injEq] at h;subst h;obtain⟨j,B,u,v,C,_⟩:=zjW l (c.regs r hi.1);have d:¬(m.regs r<0∨15<m.regs r):=by omega
   have y:exec (.store r s) (m.at'+1) m={ m with cells:=upd m.cells (m.regs r).toNat (m.regs s) }.goes (m.at'+1):=if_neg d;rw [zai (.inl (by rw [y];rfl)) hfin,y,p,B,Int.toNat_natCast];exact c.on (f:=k.regs) (zbV _) hfin c.regs (zwA c.cells v C (c.regs s hi.2)) rfl rfl
 | read r =>
  simp only [za7,Option.some.injEq] at h;subst h;rw [zai (.inl rfl) hfin,show exec (.read r) (m.at'+1) m=Mc.goes { m with regs:=upd m.regs r (m.inp.headD 0),inp:=m.inp.tail } (m.at'+1) from rfl,p];refine c.on (g:=k.cells) (zbV _) hfin (ziA c.regs (ztV ?_)) c.cells rfl rfl;cases hin:m.inp with
  | nil=>unfold i64;simp
  | cons x t=>exact M.inp x (by rw [hin];exact List.mem_cons_self)
 | write r =>
  simp only [za7,Option.some.injEq] at h;subst h;rw [zai (.inl rfl) hfin,show exec (.write r) (m.at'+1) m=Mc.goes { m with out:=m.out++[m.regs r] } (m.at'+1) from rfl,p];exact c.on (f:=k.regs) (g:=k.cells) (zbV _) hfin c.regs c.cells rfl rfl
 | jump to =>
  simp only [za7,Option.some.injEq] at h;subst h;rw [zai (.inl rfl) hfin,show exec (.jump to) (m.at'+1) m=Mc.goes m to from rfl];exact c.on (f:=k.regs) (g:=k.cells) (zbV _) hfin c.regs c.cells rfl rfl
 | less r s to =>
  rw [zai (.inl rfl) hfin,show exec (.less r s to) (m.at'+1) m=m.goes (if m.regs r<m.regs s then to else m.at'+1) from rfl];simp only [za7] at h;split at h
  ·rename_i e;subst e;simp only [Option.some.injEq] at h;subst h;rw [if_neg (by omega),p];exact c.on (f:=k.regs) (g:=k.cells) (zbV _) hfin c.regs c.cells rfl rfl
  ·rename_i e;simp only [Option.some.injEq] at h;subst h;exact zho c hfin hi.1 hi.2 e (fun hp=>zy0 (c.regs r hi.1) (c.regs s hi.2) hp) (fun hp=>zrc (c.regs r hi.1) (c.regs s hi.2) hp)
 | same r s to =>
  rw [zai (.inl rfl) hfin,show exec (.same r s to) (m.at'+1) m=m.goes (if m.regs r=m.regs s then to else m.at'+1) from rfl];simp only [za7] at h;split at h
  ·rename_i e;subst e;simp only [Option.some.injEq] at h;subst h;rw [if_pos rfl];exact c.on (f:=k.regs) (g:=k.cells) (zbV _) hfin c.regs c.cells rfl rfl
  ·rename_i e;simp only [Option.some.injEq] at h;subst h;exact zho c hfin hi.1 hi.2 e (fun hp=>zy1 (c.regs r hi.1) (c.regs s hi.2) hp) (fun hp=>zrd (c.regs r hi.1) (c.regs s hi.2) hp)
 | call to =>
  simp only [za7] at h;split at h
  ·cases h
  ·rename_i e;simp only [Option.some.injEq] at h;subst h;have hbl:=congrArg List.length c.behind;have A:¬m.frames=16:=by omega
   have y:exec (.call to) (m.at'+1) m={ m with backs:=m.backs++[m.at'+1],frames:=m.frames+1,peak:=max m.peak (m.frames+1) }.goes to:=if_neg A;rw [zai (.inl (by rw [y];rfl)) hfin,y];refine .inl ⟨hfin,_,zbV _,⟨c.regs,c.cells,rfl,?_,?_⟩⟩
   ·show m.backs++[m.at'+1]=k.behind++[k.next+1]
    rw [c.behind,p]
   ·show m.steps+1=k.steps+1;rw [c.steps]
 | back =>
  simp only [za7] at h;have z:=c.behind;cases hbe:k.behind with
  | nil =>
   rw [hbe] at z;have v:m.frames=1:=by rw [hf,z];rfl
   refine .inr (.inr ?_);have D:exec .back (m.at'+1) m={ m with frames:=0,fin:=2 }.goes (-1):=if_pos v;unfold zba;rw [D,if_pos (.inr rfl)];rfl
  | cons b r =>
   rw [hbe] at h z;simp only [Option.some.injEq] at h;subst h;have v:¬m.frames=1:=by rw [hf,z];simp;omega
   have D:exec .back (m.at'+1) m={ m with frames:=m.frames-1,backs:=m.backs.dropLast }.goes (m.backs.getLastD 0):=if_neg v;rw [zai (.inl (by rw [D];rfl)) hfin,D];refine .inl ⟨hfin,_,zbV _,⟨c.regs,c.cells,?_,?_,?_⟩⟩
   ·show m.backs.getLastD 0=(b :: r).getLastD 0;rw [z]
   ·show m.backs.dropLast=(b :: r).dropLast;rw [z]
   ·show m.steps+1=k.steps+1;rw [c.steps]
 | stop =>
  refine .inr (.inl ?_);unfold zba;rw [show exec .stop (m.at'+1) m={ m with fin:=1 }.goes (-1) from rfl,if_pos (.inl rfl)];rfl
end
section
open Go.RowKit Sp
structure KnM(w:World)(b:Nat)(bv:Value)(k:Kn):Prop where
 cR:∀ r,r<8→w.cell? ⟨b,r*2,none⟩=some (.int .i64 (k.regs r).lo)∧w.cell? ⟨b,r*2+1,none⟩=some (.int .i64 (k.regs r).hi)
 cC:∀ c,c<16→w.cell? ⟨b,16+c*2,none⟩=some (.int .i64 (k.cells c).lo)∧w.cell? ⟨b,16+c*2+1,none⟩=some (.int .i64 (k.cells c).hi)
 cN:w.cell? ⟨b,48,none⟩=some (.int .i64 k.next)
 cB:w.cell? ⟨b,49,none⟩=some bv
 cS:w.cell? ⟨b,50,none⟩=some (.int .i64 k.steps)
 fz:∀ j,w.frozen? ⟨b,j,none⟩=false
theorem KnM.lt{w:World}{b:Nat}{bv:Value}{k:Kn}(h:KnM w b bv k):b<w.heap.size:=World.block_lt_of_cell? w _ h.cN
theorem KnM.block{w w':World}{b:Nat}{bv:Value}{k:Kn}(h:KnM w b bv k)(e:w'.heap[b]?=w.heap[b]?):KnM w' b bv k:=by
 have c:∀ j,w'.cell? ⟨b,j,none⟩=w.cell? ⟨b,j,none⟩:=fun j=>World.cell?_of_block (w:=w) (a:=⟨b,j,none⟩) e;exact⟨fun r hr=>⟨(c _).trans (h.cR r hr).1,(c _).trans (h.cR r hr).2⟩,fun r hr=>⟨(c _).trans (h.cC r hr).1,(c _).trans (h.cC r hr).2⟩,(c _).trans h.cN,(c _).trans h.cB,(c _).trans h.cS,fun j=>(World.frozen?_of_block (w:=w) (a:=⟨b,j,none⟩) e).trans (h.fz j)⟩
theorem KnM.below{w w':World}{B b:Nat}{bv:Value}{k:Kn}(h:KnM w b bv k)(hb:Below B w w')(hB:b<B):KnM w' b bv k:=h.block (hb.block b hB)
theorem KnM.alloc{w:World}{b:Nat}{bv:Value}{k:Kn}(h:KnM w b bv k)(x:Obj):KnM (w.alloc x) b bv k:=h.below (box1 (a:=x)) h.lt
theorem KnM.set{w:World}{b:Nat}{bv bv2:Value}{k k2:Kn}(h:KnM w b bv k)(n:Nat)(v u:Value)(hu:w.cell? ⟨b,n,none⟩=some u)
  (hR:∀ r,r<8→(if r*2=n then v else .int .i64 (k.regs r).lo)=.int .i64 (k2.regs r).lo∧(if r*2+1=n then v else .int .i64 (k.regs r).hi)=.int .i64 (k2.regs r).hi)
  (hC:∀ c,c<16→(if 16+c*2=n then v else .int .i64 (k.cells c).lo)=.int .i64 (k2.cells c).lo∧(if 16+c*2+1=n then v else .int .i64 (k.cells c).hi)=.int .i64 (k2.cells c).hi)
  (hN:(if 48=n then v else .int .i64 k.next)=.int .i64 k2.next) (hB:(if 49=n then v else bv)=bv2) (hS:(if 50=n then v else .int .i64 k.steps)=.int .i64 k2.steps) :
  KnM (w.setCell ⟨b,n,none⟩ v) b bv2 k2:=by
 have e:∀ j x,w.cell? ⟨b,j,none⟩=some x→(w.setCell ⟨b,n,none⟩ v).cell? ⟨b,j,none⟩=some (if j=n then v else x):=fun j x hx=>by
  rw [zat w b n j v u hu];split
  ·rfl
  ·exact hx
 refine⟨fun r hr=>⟨?_,?_⟩,fun c hc=>⟨?_,?_⟩,?_,?_,?_,fun j=>zbP w _ _ j _ (h.fz j)⟩
 ·rw [e _ _ (h.cR r hr).1,(hR r hr).1]
 ·rw [e _ _ (h.cR r hr).2,(hR r hr).2]
 ·rw [e _ _ (h.cC c hc).1,(hC c hc).1]
 ·rw [e _ _ (h.cC c hc).2,(hC c hc).2]
 ·rw [e _ _ h.cN,hN]
 ·rw [e _ _ h.cB,hB]
 ·rw [e _ _ h.cS,hS]
theorem zub{w:World}{b:Nat}{bv:Value}{k:Kn}(h:KnM w b bv k):qC 137 #[.pointer (some ⟨b,0,none⟩)] w fun e w'=>e=.returned (.int .i64 k.next)∧w'=w:=by
 have c:=h.cN;go_enter Tryz.func137,Tryz.ntmps137;go_wp2;go_ret;exact⟨rfl,rfl⟩
theorem zcf{w:World}{b:Nat}{bv:Value}{k:Kn}(h:KnM w b bv k):qC 134 #[.pointer (some ⟨b,0,none⟩)] w fun e w'=>e=.returned (.int .i64 k.steps)∧w'=w:=by
 have c:=h.cS;go_enter Tryz.func134,Tryz.ntmps134;go_wp2;go_ret;exact⟨rfl,rfl⟩
theorem zfH{w:World}{b cap:Nat}{ao:Option Addr}{k:Kn}(h:KnM w b (.slice ao k.behind.length cap) k)(hl:k.behind.length≤15):qC 136 #[.pointer (some ⟨b,0,none⟩)] w fun e w'=>e=.returned (.int .i64 ((k.behind.length:Int)+1))∧w'=w:=by
 have c:=h.cB;go_enter Tryz.func136,Tryz.ntmps136;go_wp2;go_ret;exact⟨rfl,rfl⟩
def zbe(w:World)(b:Nat)(bv:Value)(k:Kn):Ending→World→Prop:=fun e w'=>∃ g,e=.returned (.slice (some ⟨g,0,none⟩) 1 1)∧w.heap.size≤g∧w'.cell? ⟨g,0,none⟩=some (.pointer (some ⟨b,0,none⟩))∧KnM w' b bv k∧w.grownBy w' (some b)
theorem zgr{w:World}{b:Nat}{bv:Value}{k:Kn}(h:KnM w b bv k)(z:Int)(h0:0≤k.steps)(h1:k.steps≤100000):qC 229 #[.pointer (some ⟨b,0,none⟩),.int .i64 z] w (zbe w b bv (k.goTo z)):=by
 have c:=h.cS;have n:=h.cN;have f1:=h.fz 50;have f2:=h.fz 48;have a:KnM (w.setCell ⟨b,50,none⟩ (.int .i64 (k.steps+1))) b bv { k with steps:=k.steps+1 }:=h.set 50 _ _ c (fun r hr=>⟨by rw [if_neg (by omega)],by rw [if_neg (by omega)]⟩) (fun r hr=>⟨by rw [if_neg (by omega)],by rw [if_neg (by omega)]⟩) (by rw [if_neg (by omega)]) (by rw [if_neg (by omega)]) (by rw [if_pos rfl]);have d:KnM ((w.setCell ⟨b,50,none⟩ (.int .i64 (k.steps+1))).setCell ⟨b,48,none⟩ (.int .i64 z)) b bv (k.goTo z):=a.set 48 _ _ a.cN (fun r hr=>⟨by rw [if_neg (by omega)];rfl,by rw [if_neg (by omega)];rfl⟩) (fun r hr=>⟨by rw [if_neg (by omega)];rfl,by rw [if_neg (by omega)];rfl⟩) (by rw [if_pos rfl];rfl) (by rw [if_neg (by omega)]) (by rw [if_neg (by omega)];rfl);have hlt:=h.lt;go_enter Tryz.func229,Tryz.ntmps229;go_wp2;go_ret;refine⟨w.heap.size,rfl,Nat.le_refl _,?_,d.alloc _,?_⟩
 ·have e:((w.setCell ⟨b,50,none⟩ (.int .i64 (k.steps+1))).setCell ⟨b,48,none⟩ (.int .i64 z)).heap.size=w.heap.size:=by rw [World.size_setCell,World.size_setCell]
  rw [←e];exact World.cell?_alloc_new _ _ _ 0
 ·exact zag (zag (zac (Below.refl _ _)) (zac (Below.refl _ _))) (World.grownBy_alloc _ _ _)
end
end Go.Proofs.YtfpgjkbjbbgciaaGreatDoor
