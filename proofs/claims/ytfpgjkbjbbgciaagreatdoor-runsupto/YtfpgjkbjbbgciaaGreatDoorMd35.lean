import Derived.Test.YtfpgjkbjbbgciaaGreatDoorMd33
import Derived.Test.YtfpgjkbjbbgciaaGreatDoorMd34
import Derived.Deep.RegionWith
import Derived.ArgAppend
import Derived.Deep.RegionLawGrows
import Derived.Lib.SliceRun
set_option maxRecDepth 100000
set_option maxHeartbeats 8000000
namespace Go.Proofs.YtfpgjkbjbbgciaaGreatDoor
open Go.RowKit Sp
theorem KnM.gone{w:World}{b:Nat}{bv:Value}{k:Kn}(h:KnM w b bv k)(z:Int):KnM ((w.setCell ⟨b,50,none⟩ (.int .i64 (k.steps+1))).setCell ⟨b,48,none⟩ (.int .i64 z)) b bv (k.goTo z):=by
 have K1:KnM (w.setCell ⟨b,50,none⟩ (.int .i64 (k.steps+1))) b bv { k with steps:=k.steps+1 }:=h.set 50 _ _ h.cS (fun r hr=>⟨by rw [if_neg (by omega)],by rw [if_neg (by omega)]⟩) (fun r hr=>⟨by rw [if_neg (by omega)],by rw [if_neg (by omega)]⟩) (by rw [if_neg (by omega)]) (by rw [if_neg (by omega)]) (by rw [if_pos rfl])
 exact K1.set 48 _ _ K1.cN (fun r hr=>⟨by rw [if_neg (by omega)];rfl,by rw [if_neg (by omega)];rfl⟩) (fun r hr=>⟨by rw [if_neg (by omega)];rfl,by rw [if_neg (by omega)];rfl⟩) (by rw [if_pos rfl];rfl) (by rw [if_neg (by omega)]) (by rw [if_neg (by omega)];rfl)
theorem zoL{w:World}{b:Nat}{bv:Value}{k:Kn}(h:KnM w b bv k)(z:Int):zaZ w b bv (k.goTo z) (.returned (.slice (some ⟨w.heap.size,0,none⟩) 1 1)) (((w.setCell ⟨b,50,none⟩ (.int .i64 (k.steps+1))).setCell ⟨b,48,none⟩ (.int .i64 z)).alloc (.cells #[.pointer (some ⟨b,0,none⟩)] 197)):=by
 refine⟨w.heap.size,rfl,Nat.le_refl _,?_,(h.gone z).alloc _,?_⟩
 ·have e:((w.setCell ⟨b,50,none⟩ (.int .i64 (k.steps+1))).setCell ⟨b,48,none⟩ (.int .i64 z)).heap.size=w.heap.size:=by rw [World.size_setCell,World.size_setCell]
  rw [←e]
  exact World.cell?_alloc_new _ _ _ 0
 ·exact zag (zag (zac (Below.refl _ _)) (zac (Below.refl _ _))) (World.grownBy_alloc _ _ _)
theorem zcq{w:World}{b:Nat}{bv:Value}{k:Kn}(h:KnM w b bv k)(h0:0≤k.steps)(h1:k.steps≤100000)(n0:0≤k.next)(n1:k.next≤100000):Calls Tryz.prog 227 #[.pointer (some ⟨b,0,none⟩)] w (zaZ w b bv (k.goTo (k.next+1))):=by
 have c:=h.cS
 have n:=h.cN
 have f1:=h.fz 50
 have f2:=h.fz 48
 have hlt:=h.lt
 go_enter Tryz.func227,Tryz.ntmps227
 go_wp2
 go_ret
 exact zoL h _
theorem ztr{w:World}{b cap:Nat}{ao:Option Addr}{k:Kn}(h:KnM w b (.slice ao 0 cap) k):Calls Tryz.prog 287 #[.pointer (some ⟨b,0,none⟩)] w fun e w'=>e=.returned (.slice none 0 0)∧w'=w:=by
 have c:=h.cB
 go_enter Tryz.func287,Tryz.ntmps287
 go_wp2
 go_ret
 exact⟨rfl,rfl⟩
theorem KnM.putB{w:World}{b:Nat}{bv:Value}{k:Kn}(h:KnM w b bv k)(bv2:Value)(l:List Int):KnM (w.setCell ⟨b,49,none⟩ bv2) b bv2 { k with behind:=l } :=
 h.set 49 _ _ h.cB (fun r hr=>⟨by rw [if_neg (by omega)],by rw [if_neg (by omega)]⟩) (fun r hr=>⟨by rw [if_neg (by omega)],by rw [if_neg (by omega)]⟩) (by rw [if_neg (by omega)]) (by rw [if_pos rfl]) (by rw [if_neg (by omega)])
theorem zfW(w:World)(ao:Option Addr)(n cap:Nat)(_hn:n≤1000000):Calls Tryz.prog 114 #[.slice ao n cap] w fun e w'=>e=.returned (.int .i64 (n:Int))∧w'=w:=by
 go_enter Tryz.func114,Tryz.ntmps114
 go_wp2
 go_ret
 exact⟨rfl,rfl⟩
theorem zlF{w:World}{S o:Nat}{v:Value}:Below S w (w.setCell ⟨S,o,none⟩ v):=(Below.refl S w).setCell (p:=⟨S,o,none⟩) (Nat.le_refl _) v
theorem ztd{w:World}{S:Nat}{ao:Option Addr}{n cap looks:Nat}(c1:w.cell? ⟨S,1,none⟩=some (.slice ao n cap))(c6:w.cell? ⟨S,6,none⟩=some (.int .i64 (looks:Int)))(fz:w.frozen? ⟨S,6,none⟩=false)(hl:looks<500000)(hn:n≤1000):
  Calls Tryz.prog 115 #[.pointer (some ⟨S,0,none⟩)] w fun e w'=>e=.returned (.tuple #[])∧w'=w.setCell ⟨S,6,none⟩ (.int .i64 ((looks:Int)+1)):=by
 have h1:(0:Int)≤(looks:Int):=by omega
 have h2:(looks:Int)<500000:=by omega
 have t1:decide ((500000:Int)<(looks:Int)+1)=false:=by simpa using (by omega:¬(500000:Int)<(looks:Int)+1)
 have t2:decide ((1000:Int)<(n:Int))=false:=by simpa using (by omega:¬(1000:Int)<(n:Int))
 have hlen:=fun W=>zfW W ao n cap (by omega)
 go_enter Tryz.func115,Tryz.ntmps115
 go_wp2_with(go_at_call 114;(with_reducible refine(hlen _).mono ?_);rintro e wx ⟨rfl,hww⟩;have hw2:=hww.symm;subst hw2)
 exact bodyPost_end (results_none rfl _ _ _) rfl ⟨rfl,rfl⟩
theorem zte{w:World}{S:Nat}{ao:Option Addr}{n cap looks:Nat}(c1:w.cell? ⟨S,1,none⟩=some (.slice ao n cap))(c6:w.cell? ⟨S,6,none⟩=some (.int .i64 (looks:Int)))(fz:w.frozen? ⟨S,6,none⟩=false)(hl:looks≤500000)(hn:n≤100000)(h:500000≤looks∨1000<n):
  Calls Tryz.prog 115 #[.pointer (some ⟨S,0,none⟩)] w fun e w'=>e=zaj 8 0∧Below S w w':=by
 have h1:(0:Int)≤(looks:Int):=by omega
 have hlen:=fun W=>zfW W ao n cap (by omega)
 by_cases h5:looks=500000
 ·subst h5
  go_enter Tryz.func115,Tryz.ntmps115
  go_wp2_with(go_at_call 114;(with_reducible refine(hlen _).mono ?_);rintro e wx ⟨rfl,hww⟩;have hw2:=hww.symm;subst hw2)
  all_goals go_wp2
  exact⟨rfl,rfl,rfl,rfl,zlF⟩
 ·have h2:(looks:Int)<500000:=by omega
  have t1:decide ((500000:Int)<(looks:Int)+1)=false:=by simpa using (by omega:¬(500000:Int)<(looks:Int)+1)
  have t2:(1000:Int)<(n:Int):=by omega
  go_enter Tryz.func115,Tryz.ntmps115
  go_wp2_with(go_at_call 114;(with_reducible refine(hlen _).mono ?_);rintro e wx ⟨rfl,hww⟩;have hw2:=hww.symm;subst hw2)
  all_goals go_wp2
  exact⟨rfl,rfl,rfl,rfl,zlF⟩
end Go.Proofs.YtfpgjkbjbbgciaaGreatDoor
namespace Go.Proofs.YtfpgjkbjbbgciaaGreatDoor
open Sp
def cmpI(a b:Int):Int:=if a<b then -1 else if b<a then 1 else 0
theorem zga{a b:Int}(h:cmpI a b=0):a=b:=by
 unfold cmpI at h
 split at h
 ·omega
 ·split at h <;> omega
theorem zlR(a:Int):cmpI a a=0:=by unfold cmpI;rw [if_neg (by omega),if_neg (by omega)]
def cmpL:List Int→List Int→Int
 | [],[]=>0
 | [],_ :: _=>-1
 | _ :: _,[]=>1
 | a :: x,b :: y=>if cmpI a b=0 then cmpL x y else cmpI a b
def cmpK(k o:Kn):Int:=if k.steps=o.steps then(if k.next=o.next then cmpL k.behind o.behind else cmpI k.next o.next) else cmpI k.steps o.steps
def encL:Nat→List Int→Int
 | 0,_=>0
 | _+1,[]=>0
 | n+1,z :: r=>(z+1)*1024 ^ n+encL n r
def SmallL(n:Nat)(l:List Int):Prop:=l.length≤n∧∀ z∈l,0≤z∧z≤1000
theorem zkn(n:Nat):(0:Int)<1024 ^ n:=Int.pow_pos (by omega)
theorem SmallL.tail{n:Nat}{z:Int}{r:List Int}(h:SmallL (n+1) (z :: r)):SmallL n r:=⟨by have:=h.1;simp at this;omega,fun y hy=>h.2 y (List.mem_cons_of_mem _ hy)⟩
theorem zeE(n:Nat)(l:List Int)(h:SmallL n l):0≤encL n l∧encL n l<1024 ^ n:=by
 induction n generalizing l with
 | zero=>exact⟨Int.le_refl _,by show(0:Int)<1;omega⟩
 | succ n ih =>
  cases l with
  | nil=>exact⟨Int.le_refl _,zkn _⟩
  | cons z r =>
   obtain⟨h1,h2⟩:=ih r h.tail
   obtain⟨z0,z1⟩:=h.2 z List.mem_cons_self
   have hp:=zkn n
   show 0≤(z+1)*1024 ^ n+encL n r∧(z+1)*1024 ^ n+encL n r<1024 ^ (n+1)
   rw [Int.pow_succ]
   have hm:(z+1)*1024 ^ n≤1001*1024 ^ n:=Int.mul_le_mul_of_nonneg_right (by omega) (by omega)
   have hm0:0≤(z+1)*1024 ^ n:=Int.mul_nonneg (by omega) (by omega)
   omega
theorem zx0(n:Nat)(x y:List Int)(hx:SmallL n x)(hy:SmallL n y):(cmpL x y<0→encL n x<encL n y)∧(cmpL x y=0→x=y)∧(0<cmpL x y→encL n y<encL n x):=by
 induction n generalizing x y with
 | zero =>
  have e1:x=[]:=List.length_eq_zero_iff.1 (by have:=hx.1;omega)
  have e2:y=[]:=List.length_eq_zero_iff.1 (by have:=hy.1;omega)
  subst e1;subst e2
  exact⟨fun h=>absurd h (by decide),fun _=>rfl,fun h=>absurd h (by decide)⟩
 | succ n ih =>
  have hp:=zkn n
  cases x with
  | nil =>
   cases y with
   | nil=>exact⟨fun h=>absurd h (by decide),fun _=>rfl,fun h=>absurd h (by decide)⟩
   | cons b y =>
    refine⟨fun _=>?_,fun h=>absurd h (by simp [cmpL]),fun h=>absurd h (by simp [cmpL])⟩
    have:=(zeE n y hy.tail).1
    obtain⟨b0,b1⟩:=hy.2 b List.mem_cons_self
    show(0:Int)<(b+1)*1024 ^ n+encL n y
    have:1*1024 ^ n≤(b+1)*1024 ^ n:=Int.mul_le_mul_of_nonneg_right (by omega) (by omega)
    omega
  | cons a x =>
   cases y with
   | nil =>
    refine⟨fun h=>absurd h (by simp [cmpL]),fun h=>absurd h (by simp [cmpL]),fun _=>?_⟩
    have:=(zeE n x hx.tail).1
    obtain⟨b0,b1⟩:=hx.2 a List.mem_cons_self
    show(0:Int)<(a+1)*1024 ^ n+encL n x
    have:1*1024 ^ n≤(a+1)*1024 ^ n:=Int.mul_le_mul_of_nonneg_right (by omega) (by omega)
    omega
   | cons b y =>
    obtain⟨i1,i2,i3⟩:=ih x y hx.tail hy.tail
    obtain⟨x0,x1⟩:=zeE n x hx.tail
    obtain⟨y0,y1⟩:=zeE n y hy.tail
    show((if cmpI a b=0 then cmpL x y else cmpI a b)<0→(a+1)*1024 ^ n+encL n x<(b+1)*1024 ^ n+encL n y)∧((if cmpI a b=0 then cmpL x y else cmpI a b)=0→a :: x=b :: y)∧(0<(if cmpI a b=0 then cmpL x y else cmpI a b)→(b+1)*1024 ^ n+encL n y<(a+1)*1024 ^ n+encL n x)
    by_cases hc:cmpI a b=0
    ·rw [if_pos hc]
     have e:=zga hc
     subst e
     exact⟨fun h=>by have:=i1 h;omega,fun h=>by rw [i2 h],fun h=>by have:=i3 h;omega⟩
    ·rw [if_neg hc]
     refine⟨fun h=>?_,fun h=>absurd h hc,fun h=>?_⟩
     ·have hab:a<b:=by unfold cmpI at h;split at h;assumption;split at h <;> omega
      have:(a+1+1)*1024 ^ n≤(b+1)*1024 ^ n:=Int.mul_le_mul_of_nonneg_right (by omega) (by omega)
      rw [Int.add_mul (a+1) 1] at this
      omega
     ·have hab:b<a:=by unfold cmpI at h;split at h;omega;split at h;assumption;omega
      have:(b+1+1)*1024 ^ n≤(a+1)*1024 ^ n:=Int.mul_le_mul_of_nonneg_right (by omega) (by omega)
      rw [Int.add_mul (b+1) 1] at this
      omega
theorem zlS(x:List Int):cmpL x x=0:=by
 induction x with
 | nil=>rfl
 | cons a x ih=>show(if cmpI a a=0 then cmpL x x else cmpI a a)=0;rw [if_pos (zlR a),ih]
structure KeyOk(k:Kn):Prop where
 next:0≤k.next∧k.next≤1000
 behind:SmallL 15 k.behind
def keyK(k:Kn):Int:=(k.steps*1024+k.next)*1024 ^ 15+encL 15 k.behind
theorem zns{k o:Kn}(hk:KeyOk k)(ho:KeyOk o):(cmpK k o<0→keyK k<keyK o)∧(cmpK k o=0→k.next=o.next∧k.behind=o.behind∧k.steps=o.steps)∧(0<cmpK k o→keyK o<keyK k):=by
 obtain⟨a0,a1⟩:=zeE 15 k.behind hk.behind
 obtain⟨b0,b1⟩:=zeE 15 o.behind ho.behind
 obtain⟨k0,k1⟩:=hk.next
 obtain⟨o0,o1⟩:=ho.next
 obtain⟨i1,i2,i3⟩:=zx0 15 _ _ hk.behind ho.behind
 unfold cmpK keyK
 by_cases e1:k.steps=o.steps
 ·rw [if_pos e1,e1]
  by_cases e2:k.next=o.next
  ·rw [if_pos e2,e2]
   exact⟨fun h=>by have:=i1 h;omega,fun h=>⟨rfl,i2 h,rfl⟩,fun h=>by have:=i3 h;omega⟩
  ·rw [if_neg e2]
   refine⟨fun h=>?_,fun h=>absurd (zga h) e2,fun h=>?_⟩
   ·have:k.next<o.next:=by unfold cmpI at h;split at h;assumption;split at h <;> omega
    omega
   ·have:o.next<k.next:=by unfold cmpI at h;split at h;omega;split at h;assumption;omega
    omega
 ·rw [if_neg e1]
  refine⟨fun h=>?_,fun h=>absurd (zga h) e1,fun h=>?_⟩
  ·have:k.steps<o.steps:=by unfold cmpI at h;split at h;assumption;split at h <;> omega
   omega
  ·have:o.steps<k.steps:=by unfold cmpI at h;split at h;omega;split at h;assumption;omega
   omega
theorem ztt{k o:Kn}(h1:k.next=o.next)(h2:k.behind=o.behind)(h3:k.steps=o.steps):cmpK k o=0:=by
 unfold cmpK;rw [if_pos h3,if_pos h1,h2,zlS]
theorem ztu{k o:Kn}(hk:KeyOk k)(ho:KeyOk o)(h:keyK k≤keyK o):k.steps≤o.steps:=by
 obtain⟨a0,a1⟩:=zeE 15 k.behind hk.behind
 obtain⟨b0,b1⟩:=zeE 15 o.behind ho.behind
 obtain⟨k0,k1⟩:=hk.next
 obtain⟨o0,o1⟩:=ho.next
 unfold keyK at h
 omega
end Go.Proofs.YtfpgjkbjbbgciaaGreatDoor
namespace Go.Proofs.YtfpgjkbjbbgciaaGreatDoor
open Go.RowKit Sp
theorem KnM.putR{w:World}{b:Nat}{bv:Value}{k:Kn}(h:KnM w b bv k)(a:Nat)(ha:a<8)(v:Rg):KnM ((w.setCell ⟨b,a*2,none⟩ (.int .i64 v.lo)).setCell ⟨b,a*2+1,none⟩ (.int .i64 v.hi)) b bv { k with regs:=updR k.regs a v }:=by
 have K1:KnM (w.setCell ⟨b,a*2,none⟩ (.int .i64 v.lo)) b bv { k with regs:=updR k.regs a ⟨v.lo,(k.regs a).hi⟩ }:=h.set (a*2) _ _ (h.cR a ha).1 (fun c hc=>⟨by
  by_cases e:c=a
  ·subst e;rw [if_pos rfl];show _=Value.int .i64 (updR k.regs c ⟨v.lo,(k.regs c).hi⟩ c).lo;rw [zd0]
  ·rw [if_neg (by omega)];show _=Value.int .i64 (updR k.regs a ⟨v.lo,(k.regs a).hi⟩ c).lo;unfold updR;rw [if_neg e],by
  rw [if_neg (by omega)]
  show _=Value.int .i64 (updR k.regs a ⟨v.lo,(k.regs a).hi⟩ c).hi
  unfold updR
  by_cases e:c=a
  ·subst e;rw [if_pos rfl]
  ·rw [if_neg e]⟩) (fun r hr=>⟨by rw [if_neg (by omega)],by rw [if_neg (by omega)]⟩) (by rw [if_neg (by omega)]) (by rw [if_neg (by omega)]) (by rw [if_neg (by omega)])
 refine K1.set (a*2+1) _ _ (K1.cR a ha).2 (fun c hc=>⟨?_,?_⟩) (fun r hr=>⟨by rw [if_neg (by omega)],by rw [if_neg (by omega)]⟩) (by rw [if_neg (by omega)]) (by rw [if_neg (by omega)]) (by rw [if_neg (by omega)])
 ·rw [if_neg (by omega)]
  show Value.int .i64 (updR k.regs a ⟨v.lo,(k.regs a).hi⟩ c).lo=Value.int .i64 (updR k.regs a v c).lo
  unfold updR
  by_cases e:c=a
  ·rw [if_pos e,if_pos e]
  ·rw [if_neg e,if_neg e]
 ·show _=Value.int .i64 (updR k.regs a v c).hi
  by_cases e:c=a
  ·subst e;rw [if_pos rfl,zd0]
  ·rw [if_neg (by omega)]
   show Value.int .i64 (updR k.regs a ⟨v.lo,(k.regs a).hi⟩ c).hi=_
   unfold updR
   rw [if_neg e,if_neg e]
def zf5(w:World)(b:Nat)(bv:Value)(k:Kn)(l r:Nat)(q:Option (Rg × Rg)):Ending→World→Prop:=fun e w'=>e=.returned (.bool q.isSome)∧w.grownBy w' (some b)∧∃ x y,(∀ p,q=some p→p=(x,y))∧KnM w' b bv { k with regs:=updR (updR k.regs l x) r y }
theorem ztl{w:World}{l r:Rg}{q:Option (Rg × Rg)}{e:Ending}{w':World}(h:zdB w l r q e w'):∃ x y,e=.returned (.tuple #[rv x,rv y,.bool q.isSome])∧(∀ p,q=some p→p=(x,y))∧Below w.heap.size w w':=by
 obtain⟨hb,h⟩:=h
 cases q with
 | none=>obtain⟨x,y,rfl⟩:=h;exact⟨x,y,rfl,fun p hp=>(by cases hp),hb⟩
 | some p=>obtain⟨x,y⟩:=p;exact⟨x,y,h,fun p hp=>(by cases hp;rfl),hb⟩
theorem zoI{F:Nat}(hfn:∀(args:Array Value) (W:World),(callFunc F args).run Tryz.prog W=.ok (.enter F args) W){w:World}{b:Nat}{bv:Value}{k:Kn}(h:KnM w b bv k)(l r:Nat)(hl:l<8)(hr:r<8)(hne:¬l=r)(q:Option (Rg × Rg))(hF:∀ W,Calls Tryz.prog F #[rv (k.regs l),rv (k.regs r)] W (zdB W (k.regs l) (k.regs r) q)):
  Calls Tryz.prog 273 #[.pointer (some ⟨b,0,none⟩),.int .i64 (l:Int),.int .i64 (r:Int),.func (.func F) #[] #[]] w (zf5 w b bv k l r q):=by
 obtain⟨d0,d1⟩:=h.cR l hl
 obtain⟨d2,d3⟩:=h.cR r hr
 have HB:∀ W,Below w.heap.size w W→KnM W b bv k:=fun W hW=>h.below hW h.lt
 have hlt:=h.lt
 have hl0:(0:Int)≤(l:Int):=by omega
 have hl1:(l:Int)<8:=by omega
 have hr0:(0:Int)≤(r:Int):=by omega
 have hr1:(r:Int)<8:=by omega
 have n1:¬l*2=r*2:=by omega
 have n2:¬l*2+1=r*2:=by omega
 have n3:¬l*2=r*2+1:=by omega
 have n4:¬l*2+1=r*2+1:=by omega
 have n5:¬r*2=l*2:=by omega
 have n6:¬r*2+1=l*2:=by omega
 have n7:¬r*2=l*2+1:=by omega
 have n8:¬r*2+1=l*2+1:=by omega
 clear h
 go_enter Tryz.func273,Tryz.ntmps273
 go_wp2
 go_region_with(first|((with_reducible refine(hF _).mono ?_);intro e wy hy;obtain⟨x,y,rfl,hxy,hby⟩:=ztl hy;have hX:Below w.heap.size w wy:=(Below.refl _ w).drew.trans hby;have LY:=HB _ hX;have y0:=(LY.cR l hl).1;have y1:=(LY.cR l hl).2;have y2:=LY.fz (l*2);have y3:=LY.fz (l*2+1);have y4:=(LY.cR r hr).1;have y5:=(LY.cR r hr).2;have y6:=LY.fz (r*2);have y7:=LY.fz (r*2+1)))
 all_goals go_wp2
 all_goals go_ret
 all_goals exact⟨rfl,zag (zag (zag (zac hX) (zac (Below.refl _ _))) (zac (Below.refl _ _))) (zac (Below.refl _ _)),x,y,hxy,(LY.putR l hl x).putR r hr y⟩
theorem KnM.has{w:World}{b:Nat}{bv:Value}{k:Kn}(h:KnM w b bv k)(j:Nat)(hj:j<51):∃ v,w.cell? ⟨b,j,none⟩=some v∧(bv.oneCell'=true→v.oneCell'=true):=by
 by_cases h1:j<16
 ·rcases Nat.mod_two_eq_zero_or_one j with e|e
  ·have:=(h.cR (j/2) (by omega)).1;rw [show j/2*2=j by omega] at this;exact⟨_,this,fun _=>rfl⟩
  ·have:=(h.cR (j/2) (by omega)).2;rw [show j/2*2+1=j by omega] at this;exact⟨_,this,fun _=>rfl⟩
 ·by_cases h2:j<48
  ·rcases Nat.mod_two_eq_zero_or_one j with e|e
   ·have:=(h.cC ((j-16)/2) (by omega)).1;rw [show 16+(j-16)/2*2=j by omega] at this;exact⟨_,this,fun _=>rfl⟩
   ·have:=(h.cC ((j-16)/2) (by omega)).2;rw [show 16+(j-16)/2*2+1=j by omega] at this;exact⟨_,this,fun _=>rfl⟩
  ·rcases(by omega:j=48∨j=49∨j=50) with e|e|e
   ·subst e;exact⟨_,h.cN,fun _=>rfl⟩
   ·subst e;exact⟨_,h.cB,fun h=>h⟩
   ·subst e;exact⟨_,h.cS,fun _=>rfl⟩
theorem KnM.row{w:World}{b:Nat}{bv:Value}{k:Kn}(h:KnM w b bv k):∃ cs:List Value,cs.length=51∧w.rangeAt b 0 cs∧(∀ j,j<51→cs[j]?=w.cell? ⟨b,j,none⟩)∧(bv.oneCell'=true→∀ v∈cs,v.oneCell'=true):=by
 have key:∀ j,j<51→((List.range 51).map fun j=>(w.cell? ⟨b,j,none⟩).getD undef)[j]?=w.cell? ⟨b,j,none⟩:=fun j hj=>by
  obtain⟨v,hv,_⟩:=h.has j hj
  rw [List.getElem?_map,List.getElem?_range hj,hv]
  simp [hv]
 refine⟨(List.range 51).map fun j=>(w.cell? ⟨b,j,none⟩).getD undef,by simp,fun j v hv=>?_,key,fun hb v hv=>?_⟩
 ·have hj:j<51:=by
   have:=(List.getElem?_eq_some_iff.1 hv).1
   simpa using this
  rw [Nat.zero_add,←key j hj]
  exact hv
 ·obtain⟨j,hj,rfl⟩:=List.mem_map.1 hv
  obtain⟨v,hv,ho⟩:=h.has j (List.mem_range.1 hj)
  rw [hv]
  exact ho hb
structure KnR(w:World)(b o:Nat)(bv:Value)(k:Kn):Prop where
 cR:∀ r,r<8→w.cell? ⟨b,o+r*2,none⟩=some (.int .i64 (k.regs r).lo)∧w.cell? ⟨b,o+(r*2+1),none⟩=some (.int .i64 (k.regs r).hi)
 cC:∀ c,c<16→w.cell? ⟨b,o+(16+c*2),none⟩=some (.int .i64 (k.cells c).lo)∧w.cell? ⟨b,o+(16+c*2+1),none⟩=some (.int .i64 (k.cells c).hi)
 cN:w.cell? ⟨b,o+48,none⟩=some (.int .i64 k.next)
 cB:w.cell? ⟨b,o+49,none⟩=some bv
 cS:w.cell? ⟨b,o+50,none⟩=some (.int .i64 k.steps)
theorem KnM.copyR{w w':World}{b b' o:Nat}{bv:Value}{k:Kn}(h:KnM w b bv k)(e:∀ j,j<51→w'.cell? ⟨b',o+j,none⟩=w.cell? ⟨b,j,none⟩):KnR w' b' o bv k :=
 ⟨fun r hr=>⟨(e _ (by omega)).trans (h.cR r hr).1,(e _ (by omega)).trans (h.cR r hr).2⟩,fun r hr=>⟨(e _ (by omega)).trans (h.cC r hr).1,(e _ (by omega)).trans (h.cC r hr).2⟩,(e _ (by omega)).trans h.cN,(e _ (by omega)).trans h.cB,(e _ (by omega)).trans h.cS⟩
theorem KnR.whole{w:World}{b:Nat}{bv:Value}{k:Kn}(h:KnR w b 0 bv k)(fz:∀ j,w.frozen? ⟨b,j,none⟩=false):KnM w b bv k:=by
 obtain⟨h1,h2,h3,h4,h5⟩:=h
 simp only [Nat.zero_add] at h1 h2 h3 h4 h5
 exact⟨h1,h2,h3,h4,h5,fz⟩
theorem KnR.block{w w':World}{b o:Nat}{bv:Value}{k:Kn}(h:KnR w b o bv k)(e:w'.heap[b]?=w.heap[b]?):KnR w' b o bv k:=by
 have c:∀ j,w'.cell? ⟨b,j,none⟩=w.cell? ⟨b,j,none⟩:=fun j=>World.cell?_of_block (w:=w) (a:=⟨b,j,none⟩) e
 exact⟨fun r hr=>⟨(c _).trans (h.cR r hr).1,(c _).trans (h.cR r hr).2⟩,fun r hr=>⟨(c _).trans (h.cC r hr).1,(c _).trans (h.cC r hr).2⟩,(c _).trans h.cN,(c _).trans h.cB,(c _).trans h.cS⟩
structure WaysAt(w w':World)(b:Nat)(bv:Value)(ks:List Kn)(ao:Option Addr)(ps:List Nat):Prop where
 grown:w.grownBy w' (some b)
 ptrs:∀(i p:Nat),ps[i]?=some p→∃ g,ao=some ⟨g,0,none⟩∧w.heap.size≤g∧w'.cell? ⟨g,i,none⟩=some (.pointer (some ⟨p,0,none⟩))
 len:ps.length=ks.length
 kn:∀(i p:Nat) (k:Kn),ps[i]?=some p→ks[i]?=some k→KnM w' p bv k
 nodup:ps.Nodup
 from':∀ p∈ps,p=b∨w.heap.size≤p
def zcJ(w:World)(b:Nat)(bv:Value)(ks:List Kn):Ending→World→Prop:=fun e w'=>∃(ao:Option Addr) (cap:Nat) (ps:List Nat),e=.returned (.slice ao ps.length cap)∧WaysAt w w' b bv ks ao ps
theorem zkm{w:World}{b:Nat}{bv:Value}{k:Kn}{e:Ending}{w':World}(h:zaZ w b bv k e w'):zcJ w b bv [k] e w':=by
 obtain⟨g,rfl,hg,hc,hk,hgr⟩:=h
 refine⟨some ⟨g,0,none⟩,1,[b],rfl,⟨hgr,fun i p hp=>?_,rfl,fun i p k' hp hk'=>?_,by simp,fun p hp=>.inl (List.mem_singleton.1 hp)⟩⟩
 ·cases i with
  | zero=>cases hp;exact⟨g,rfl,hg,hc⟩
  | succ i=>simp at hp
 ·cases i with
  | zero=>cases hp;cases hk';exact hk
  | succ i=>simp at hp
abbrev Z217:Obj:=.cells #[.int .i64 0,.int .i64 0,.int .i64 0,.int .i64 0,.int .i64 0,.int .i64 0,.int .i64 0,.int .i64 0,.int .i64 0,.int .i64 0,.int .i64 0,.int .i64 0,.int .i64 0,.int .i64 0,.int .i64 0,.int .i64 0,.int .i64 0,.int .i64 0,.int .i64 0,.int .i64 0,.int .i64 0,.int .i64 0,.int .i64 0,.int .i64 0,.int .i64 0,.int .i64 0,.int .i64 0,.int .i64 0,.int .i64 0,.int .i64 0,.int .i64 0,.int .i64 0,.int .i64 0,.int .i64 0,.int .i64 0,.int .i64 0,.int .i64 0,.int .i64 0,.int .i64 0,.int .i64 0,.int .i64 0,.int .i64 0,.int .i64 0,.int .i64 0,.int .i64 0,.int .i64 0,.int .i64 0,.int .i64 0,.int .i64 0,.slice none 0 0,.int .i64 0] 217
theorem zfb(w:World):(w.alloc Z217).there w.heap.size 0 51:=fun j hj=>by
 refine⟨?_,by simp⟩
 have h:=World.cell?_alloc_new (w:=w) #[.int .i64 0,.int .i64 0,.int .i64 0,.int .i64 0,.int .i64 0,.int .i64 0,.int .i64 0,.int .i64 0,.int .i64 0,.int .i64 0,.int .i64 0,.int .i64 0,.int .i64 0,.int .i64 0,.int .i64 0,.int .i64 0,.int .i64 0,.int .i64 0,.int .i64 0,.int .i64 0,.int .i64 0,.int .i64 0,.int .i64 0,.int .i64 0,.int .i64 0,.int .i64 0,.int .i64 0,.int .i64 0,.int .i64 0,.int .i64 0,.int .i64 0,.int .i64 0,.int .i64 0,.int .i64 0,.int .i64 0,.int .i64 0,.int .i64 0,.int .i64 0,.int .i64 0,.int .i64 0,.int .i64 0,.int .i64 0,.int .i64 0,.int .i64 0,.int .i64 0,.int .i64 0,.int .i64 0,.int .i64 0,.int .i64 0,.slice none 0 0,.int .i64 0] 217 (0+j)
 rw [h,Array.getElem?_eq_getElem (by simpa using hj)]
 rfl
theorem Tryz.size217:(Tryz.prog.info? 217).map (·.size)=some 51:=by kernel_rfl
theorem KnM.fresh{w:World}{b:Nat}{bv:Value}{k:Kn}(h:KnM w b bv k)(cs:List Value)(hl:cs.length=51)(hcs:∀ j,j<51→cs[j]?=w.cell? ⟨b,j,none⟩):
  KnM ((w.alloc Z217).setCells w.heap.size 0 cs) w.heap.size bv k∧KnM ((w.alloc Z217).setCells w.heap.size 0 cs) b bv k∧Below w.heap.size w ((w.alloc Z217).setCells w.heap.size 0 cs):=by
 have hb:Below w.heap.size w ((w.alloc Z217).setCells w.heap.size 0 cs):=zar _ 0 ((Below.refl w.heap.size w).alloc (Nat.le_refl _) _) (Nat.le_refl _)
 have ht:=zfb w
 rw [←hl] at ht
 have hr:=World.rangeAt_setCells_same (w.alloc Z217) w.heap.size 0 cs ht
 refine⟨(h.copyR (o:=0) fun j hj=>?_).whole fun j=>?_,h.below hb h.lt,hb⟩
 ·rw [←hcs j hj]
  have hjl:j<cs.length:=by omega
  rw [List.getElem?_eq_getElem hjl]
  exact hr j _ (List.getElem?_eq_getElem hjl)
 ·rw [World.frozen?_setCells]
  exact World.frozen?_alloc_at _ _ _ _ (by simp)
theorem KnM.grown{w w':World}{b c:Nat}{bv:Value}{k:Kn}(h:KnM w b bv k)(hg:w.grownBy w' (some c))(hne:¬b=c):KnM w' b bv k:=h.block (hg.block b h.lt (fun e=>hne (by cases e;rfl)))
theorem zaQ{w w':World}{b:Option Nat}(h:Below w.heap.size w w'):w.grownBy w' b:=⟨h.os,h.tape,h.output,h.size,fun q hq _=>h.block q hq⟩
theorem zd1{w w' w2:World}{b h:Nat}(hg:w.grownBy w' (some b))(hh:w.heap.size≤h)(h2:w'.grownBy w2 (some h)):w.grownBy w2 (some b) :=
 ⟨h2.os.trans hg.os,h2.tape.trans hg.tape,h2.output.trans hg.output,Nat.le_trans hg.size h2.size,fun i hi hne=>(h2.block i (Nat.lt_of_lt_of_le hi hg.size) (fun e=>by cases e;omega)).trans (hg.block i hi hne)⟩
theorem zj0{w w' w2:World}{b:Nat}(hg:w.grownBy w' (some b))(h2:w'.grownBy w2 none):w.grownBy w2 (some b) :=
 ⟨h2.os.trans hg.os,h2.tape.trans hg.tape,h2.output.trans hg.output,Nat.le_trans hg.size h2.size,fun i hi hne=>(h2.block i (Nat.lt_of_lt_of_le hi hg.size) (fun e=>by cases e)).trans (hg.block i hi hne)⟩
theorem KnM.grown0{w w':World}{b:Nat}{bv:Value}{k:Kn}(h:KnM w b bv k)(hg:w.grownBy w' none):KnM w' b bv k:=h.block (hg.block b h.lt (fun e=>by cases e))
theorem Tryz.info197:(Tryz.prog.info? 197).map (fun i=>(i.zero,i.size,i.bytes))=some (some (.pointer none),1,8):=by kernel_rfl
theorem Tryz.under150:Tryz.prog.underlying 150=some (.slice 197):=by kernel_rfl
theorem zfZ{w:World}{B g cap n:Nat}{e:TypeId}{size:Nat}{xs:List Value}(h:w.ownsRow B e size (.slice (some ⟨g,0,none⟩) n cap) n xs)(j:Nat)(v:Value)(hv:xs[j]?=some v):w.cell? ⟨g,j,none⟩=some v:=by
 obtain⟨hl,h⟩:=h
 rcases h with ⟨h,_⟩|⟨g',cap',cur,h,_,hg,_,_,hs,ht⟩
 ·cases h
 ·cases h
  have hj:=(List.getElem?_eq_some_iff.1 hv).1
  rw [←ht,List.getElem?_take_of_lt (by omega)] at hv
  simp [World.cell?,hg]
  simpa using hv
theorem zij{F G:Nat}{w:World}{b:Nat}{bv:Value}{k:Kn}(h:KnM w b bv k)(hbv:bv.oneCell'=true)(l r:Nat)(z:Int)(x y:Rg)
  (hF:∀ W b2,KnM W b2 bv k→Calls Tryz.prog 273 #[.pointer (some ⟨b2,0,none⟩),.int .i64 (l:Int),.int .i64 (r:Int),.func (.func F) #[] #[]] W (zf5 W b2 bv k l r (some (x,y))))
  (hG:∀ W b2,KnM W b2 bv k→Calls Tryz.prog 273 #[.pointer (some ⟨b2,0,none⟩),.int .i64 (l:Int),.int .i64 (r:Int),.func (.func G) #[] #[]] W (zf5 W b2 bv k l r (none)))
  (h0:0≤k.steps) (h1:k.steps≤100000) :
  Calls Tryz.prog 270 #[.pointer (some ⟨b,0,none⟩),.int .i64 (l:Int),.int .i64 (r:Int),.func (.func F) #[] #[],.func (.func G) #[] #[],.int .i64 z] w (zcJ w b bv [{ k with regs:=updR (updR k.regs l x) r y }.goTo z]):=by
 obtain⟨cs,hcl,hrange,hcs,hone⟩:=h.row
 have h1c:cs.toArray.all (·.oneCell')=true:=all_oneCell_toArray (hone hbv)
 have hi:(Tryz.prog.info? 217).map (·.size)=some cs.length:=by rw [hcl];exact Tryz.size217
 have hi2:(Tryz.prog.info? 217).map (·.size)=some cs.toArray.size:=by rw [show cs.toArray.size=51 by simp [hcl]];exact Tryz.size217
 obtain⟨hk2,hk1,hb1⟩:=h.fresh cs hcl hcs
 have ht:(w.alloc Z217).there w.heap.size 0 cs.toArray.size:=by rw [show cs.toArray.size=51 by simp [hcl]];exact zfb w
 have hlt:=h.lt
 have hu:Tryz.prog.underlying 217=some (.struct _):=Tryz.underlying217
 go_enter Tryz.func270,Tryz.ntmps270
 go_wp2_with(first
  | (refine wpList_load_mid rfl 217 _ rfl b 0 rfl cs _ hrange hu rfl hi ?_)
  | (refine wpList_store_mid rfl 217 _ _ rfl w.heap.size 0 cs.toArray rfl rfl ht hi2 h1c ?_)
  | (go_at_call 273;(with_reducible refine(hF _ b hk1).mono ?_);rintro e w2 ⟨rfl,hg2,x2,y2,hxy,hK2⟩;have hk3:=hk2.grown hg2 (by omega))
  | (go_at_call 273;(with_reducible refine(hG w2 w.heap.size hk3).mono ?_);rintro e w3 ⟨rfl,hg3,x3,y3,hxy3,hK3⟩;have hK4:=hK2.grown hg3 (by omega))
  | (go_at_call 229;(with_reducible refine(zfY hK4 z h0 h1).mono ?_);intro e w4 hw4;obtain⟨g,rfl,hg,hc,hk,hgr⟩:=hw4))
 obtain⟨rfl,rfl⟩:x=x2∧y=y2:=by have:=hxy _ rfl;simpa using this
 go_ret
 exact zkm ⟨g,rfl,Nat.le_trans hb1.size (Nat.le_trans hg2.size (Nat.le_trans hg3.size hg)),hc,hk,zag (zd1 (zag (zaQ hb1) hg2) (Nat.le_refl _) hg3) hgr⟩
theorem zik{F G:Nat}{w:World}{b:Nat}{bv:Value}{k:Kn}(h:KnM w b bv k)(hbv:bv.oneCell'=true)(l r:Nat)(z:Int)(x' y':Rg)
  (hF:∀ W b2,KnM W b2 bv k→Calls Tryz.prog 273 #[.pointer (some ⟨b2,0,none⟩),.int .i64 (l:Int),.int .i64 (r:Int),.func (.func F) #[] #[]] W (zf5 W b2 bv k l r (none)))
  (hG:∀ W b2,KnM W b2 bv k→Calls Tryz.prog 273 #[.pointer (some ⟨b2,0,none⟩),.int .i64 (l:Int),.int .i64 (r:Int),.func (.func G) #[] #[]] W (zf5 W b2 bv k l r (some (x',y'))))
  (h0:0≤k.steps) (h1:k.steps≤100000) (n0:0≤k.next) (n1:k.next≤100000) :
  Calls Tryz.prog 270 #[.pointer (some ⟨b,0,none⟩),.int .i64 (l:Int),.int .i64 (r:Int),.func (.func F) #[] #[],.func (.func G) #[] #[],.int .i64 z] w (zcJ w b bv [{ k with regs:=updR (updR k.regs l x') r y' }.goTo (k.next+1)]):=by
 obtain⟨cs,hcl,hrange,hcs,hone⟩:=h.row
 have h1c:cs.toArray.all (·.oneCell')=true:=all_oneCell_toArray (hone hbv)
 have hi:(Tryz.prog.info? 217).map (·.size)=some cs.length:=by rw [hcl];exact Tryz.size217
 have hi2:(Tryz.prog.info? 217).map (·.size)=some cs.toArray.size:=by rw [show cs.toArray.size=51 by simp [hcl]];exact Tryz.size217
 obtain⟨hk2,hk1,hb1⟩:=h.fresh cs hcl hcs
 have ht:(w.alloc Z217).there w.heap.size 0 cs.toArray.size:=by rw [show cs.toArray.size=51 by simp [hcl]];exact zfb w
 have hlt:=h.lt
 have hu:Tryz.prog.underlying 217=some (.struct _):=Tryz.underlying217
 go_enter Tryz.func270,Tryz.ntmps270
 go_wp2_with(first
  | (refine wpList_load_mid rfl 217 _ rfl b 0 rfl cs _ hrange hu rfl hi ?_)
  | (refine wpList_store_mid rfl 217 _ _ rfl w.heap.size 0 cs.toArray rfl rfl ht hi2 h1c ?_)
  | (go_at_call 273;(with_reducible refine(hF _ b hk1).mono ?_);rintro e w2 ⟨rfl,hg2,x2,y2,hxy,hK2⟩;have hk3:=hk2.grown hg2 (by omega))
  | (go_at_call 273;(with_reducible refine(hG w2 w.heap.size hk3).mono ?_);rintro e w3 ⟨rfl,hg3,x3,y3,hxy3,hK3⟩;have hK4:=hK2.grown hg3 (by omega))
  | (go_at_call 227;(with_reducible refine(zcq hK3 h0 h1 n0 n1).mono ?_);intro e w4 hw4;obtain⟨g,rfl,hg,hc,hk,hgr⟩:=hw4))
 obtain⟨rfl,rfl⟩:x'=x3∧y'=y3:=by have:=hxy3 _ rfl;simpa using this
 go_ret
 have G3:w.grownBy w3 (some b):=zd1 (zag (zaQ hb1) hg2) (Nat.le_refl _) hg3
 refine⟨some ⟨g,0,none⟩,1,[w.heap.size],rfl,⟨zd1 G3 (Nat.le_refl _) hgr,fun i p hp=>?_,rfl,fun i p k' hp hk'=>?_,by simp,fun p hp=>.inr (by rw [List.mem_singleton.1 hp];exact Nat.le_refl _)⟩⟩
 ·cases i with
  | zero=>cases hp;exact⟨g,rfl,Nat.le_trans G3.size hg,hc⟩
  | succ i=>simp at hp
 ·cases i with
  | zero=>cases hp;cases hk';exact hk
  | succ i=>simp at hp
theorem zil{F G:Nat}{w:World}{b:Nat}{bv:Value}{k:Kn}(h:KnM w b bv k)(hbv:bv.oneCell'=true)(l r:Nat)(z:Int)(x y x' y':Rg)
  (hF:∀ W b2,KnM W b2 bv k→Calls Tryz.prog 273 #[.pointer (some ⟨b2,0,none⟩),.int .i64 (l:Int),.int .i64 (r:Int),.func (.func F) #[] #[]] W (zf5 W b2 bv k l r (some (x,y))))
  (hG:∀ W b2,KnM W b2 bv k→Calls Tryz.prog 273 #[.pointer (some ⟨b2,0,none⟩),.int .i64 (l:Int),.int .i64 (r:Int),.func (.func G) #[] #[]] W (zf5 W b2 bv k l r (some (x',y'))))
  (h0:0≤k.steps) (h1:k.steps≤100000) (n0:0≤k.next) (n1:k.next≤100000) :
  Calls Tryz.prog 270 #[.pointer (some ⟨b,0,none⟩),.int .i64 (l:Int),.int .i64 (r:Int),.func (.func F) #[] #[],.func (.func G) #[] #[],.int .i64 z] w (zcJ w b bv [{ k with regs:=updR (updR k.regs l x) r y }.goTo z,{ k with regs:=updR (updR k.regs l x') r y' }.goTo (k.next+1)]):=by
 obtain⟨cs,hcl,hrange,hcs,hone⟩:=h.row
 have h1c:cs.toArray.all (·.oneCell')=true:=all_oneCell_toArray (hone hbv)
 have hi:(Tryz.prog.info? 217).map (·.size)=some cs.length:=by rw [hcl];exact Tryz.size217
 have hi2:(Tryz.prog.info? 217).map (·.size)=some cs.toArray.size:=by rw [show cs.toArray.size=51 by simp [hcl]];exact Tryz.size217
 obtain⟨hk2,hk1,hb1⟩:=h.fresh cs hcl hcs
 have ht:(w.alloc Z217).there w.heap.size 0 cs.toArray.size:=by rw [show cs.toArray.size=51 by simp [hcl]];exact zfb w
 have hlt:=h.lt
 have hu:Tryz.prog.underlying 217=some (.struct _):=Tryz.underlying217
 obtain⟨i0,hi0,hz0,hz1,hz2⟩:=info_parts Tryz.info197
 go_enter Tryz.func270,Tryz.ntmps270
 go_wp2_with(first
  | (refine wpList_load_mid rfl 217 _ rfl b 0 rfl cs _ hrange hu rfl hi ?_)
  | (refine wpList_store_mid rfl 217 _ _ rfl w.heap.size 0 cs.toArray rfl rfl ht hi2 h1c ?_)
  | (go_at_call 273;(with_reducible refine(hF _ b hk1).mono ?_);rintro e w2 ⟨rfl,hg2,x2,y2,hxy,hK2⟩;have hk3:=hk2.grown hg2 (by omega))
  | (go_at_call 273;(with_reducible refine(hG w2 w.heap.size hk3).mono ?_);rintro e w3 ⟨rfl,hg3,x3,y3,hxy3,hK3⟩;have hK4:=hK2.grown hg3 (by omega))
  | (go_at_call 229;(with_reducible refine(zfY hK4 z h0 h1).mono ?_);intro e w4 hw4;obtain⟨g,rfl,hg,hc,hk,hgr⟩:=hw4;have hK5:=hK3.grown hgr (by omega))
  | (go_at_call 227;(with_reducible refine(zcq hK5 h0 h1 n0 n1).mono ?_);intro e w5 hw5;obtain⟨g2,rfl,hg5,hc5,hk5,hgr5⟩:=hw5;have hgl:g<w4.heap.size:=World.block_lt_of_cell? w4 _ hc;have hc6:w5.cell? ⟨g,0,none⟩=some (.pointer (some ⟨b,0,none⟩)):=(World.cell?_of_block (w:=w4) (a:=⟨g,0,none⟩) (hgr5.block g hgl (fun e=>by cases e;have:=hb1.size;have:=hg2.size;have:=hg3.size;have:=hk3.lt;omega))).trans hc)
  | (at_builtin;(refine wpList_append_grows w5 rfl _ _ 150 rfl 197 i0 (.pointer none) 1 8 Tryz.under150 hi0 hz0 hz1 hz2 rfl (by decide) (some ⟨g,0,none⟩) 1 1 [.pointer (some ⟨b,0,none⟩)] rfl (fun h=>by cases h) rfl (fun a ha j u hu=>by cases ha;cases j with|zero=>cases hu;exact hc6|succ j=>simp at hu) ⟨g2,0,none⟩ 1 1 [.pointer (some ⟨w.heap.size,0,none⟩)] rfl rfl (fun j u hu=>by cases j with|zero=>cases hu;exact hc5|succ j=>simp at hu) (by simp [Value.oneCell']) (by omega) (by unfold maxLen;omega) (by omega) ?_);intro v' w6 hown6 hgr6;obtain⟨g6,c6,rfl,hg6,hg6l⟩:=hown6.form (by omega)))
 obtain⟨rfl,rfl⟩:x=x2∧y=y2:=by have:=hxy _ rfl;simpa using this
 obtain⟨rfl,rfl⟩:x'=x3∧y'=y3:=by have:=hxy3 _ rfl;simpa using this
 go_ret
 have G3:w.grownBy w3 (some b):=zd1 (zag (zaQ hb1) hg2) (Nat.le_refl _) hg3
 have G5:w.grownBy w5 (some b):=zd1 (zag G3 hgr) (Nat.le_refl _) hgr5
 have e0:=zfZ hown6 0 _ rfl
 have e1:=zfZ hown6 1 _ rfl
 have q0:=(hk.grown hgr5 (by omega)).grown0 hgr6
 have q1:=hk5.grown0 hgr6
 refine⟨some ⟨g6,0,none⟩,c6,[b,w.heap.size],rfl,⟨zj0 G5 hgr6,fun i p hp=>?_,rfl,fun i p k' hp hk'=>?_,by simp;omega,fun p hp=>?_⟩⟩
 ·refine⟨g6,rfl,Nat.le_trans G5.size hg6,?_⟩
  cases i with
  | zero=>cases hp;exact e0
  | succ i=>cases i with
   | zero=>cases hp;exact e1
   | succ i=>simp at hp
 ·cases i with
  | zero=>cases hp;cases hk';exact q0
  | succ i=>cases i with
   | zero=>cases hp;cases hk';exact q1
   | succ i=>simp at hp
 ·rcases List.mem_cons.1 hp with rfl|hp
  ·exact .inl rfl
  ·exact .inr (by rw [List.mem_singleton.1 hp];exact Nat.le_refl _)
structure BhM(w:World)(ao:Option Addr)(cap:Nat)(l:List Int):Prop where
 len:l.length≤15
 le:l.length≤cap
 top:cap≤maxLen
 nil:ao=none→l=[]∧cap=0
 at0:∀ a,ao=some a→∃ g,a=⟨g,0,none⟩
 cell:∀ g,ao=some ⟨g,0,none⟩→g<w.heap.size∧∀(i:Nat) (v:Int),l[i]?=some v→w.cell? ⟨g,i,none⟩=some (.int .i64 v)
theorem zys(w:World):BhM w none 0 []:=⟨Nat.zero_le _,Nat.zero_le _,Nat.zero_le _,fun _=>⟨rfl,rfl⟩,fun a h=>(by cases h),fun g h=>(by cases h)⟩
theorem BhM.kept{w w':World}{ao:Option Addr}{cap:Nat}{l:List Int}(h:BhM w ao cap l)(hs:w.heap.size≤w'.heap.size)(hb:∀ g,ao=some ⟨g,0,none⟩→w'.heap[g]?=w.heap[g]?):BhM w' ao cap l :=
 ⟨h.len,h.le,h.top,h.nil,h.at0,fun g hg=>⟨Nat.lt_of_lt_of_le (h.cell g hg).1 hs,fun i v hv=>(World.cell?_of_block (w:=w) (a:=⟨g,i,none⟩) (hb g hg)).trans ((h.cell g hg).2 i v hv)⟩⟩
theorem BhM.grown{w w':World}{ao:Option Addr}{cap:Nat}{l:List Int}{b:Nat}(h:BhM w ao cap l)(hg:w.grownBy w' (some b))(ap:∀ a,ao=some a→¬a.block=b):BhM w' ao cap l :=
 h.kept hg.size fun g e=>hg.block g (h.cell g e).1 (fun x=>ap _ e (by cases x;rfl))
theorem BhM.below{w w':World}{ao:Option Addr}{cap:Nat}{l:List Int}(h:BhM w ao cap l)(hb:Below w.heap.size w w'):BhM w' ao cap l :=
 h.kept hb.size fun g e=>hb.block g (h.cell g e).1
theorem zvA{w:World}(ao:Option Addr)(n cap:Nat)(hn:n≤15)(hc:n≤cap)(hm:cap≤maxLen)(h0:ao=none→n=0∧cap=0):Calls Tryz.prog 283 #[.slice ao n cap] w fun e w'=>e=.returned (.slice ao n n)∧w'=w:=by
 cases ao with
 | none =>
  obtain⟨rfl,rfl⟩:=h0 rfl
  go_enter Tryz.func283,Tryz.ntmps283
  go_wp2
  go_ret
  exact⟨rfl,rfl⟩
 | some a =>
  unfold maxLen at hm
  go_enter Tryz.func283,Tryz.ntmps283
  go_wp2
  go_ret
  exact⟨rfl,rfl⟩
theorem zyt{w:World}{B g cap n:Nat}{l:List Int}(h:w.ownsRow B 3 1 (.slice (some ⟨g,0,none⟩) n cap) n (i64s l))(hn:n≤15)(hg:g<w.heap.size):BhM w (some ⟨g,0,none⟩) cap l:=by
 have hl:l.length=n:=by have:=h.1;simpa [i64s] using this
 have hb:n≤cap∧cap≤maxLen:=by
  rcases h.2 with ⟨h,_⟩|⟨g',cap',cur,h,_,_,h1,h2,_,_⟩
  ·cases h
  ·cases h;exact⟨h1,h2⟩
 refine⟨by omega,by omega,hb.2,fun e=>(by cases e),fun a ha=>⟨g,by cases ha;rfl⟩,fun g' e=>?_⟩
 cases e
 exact⟨hg,fun i v hv=>zfZ h i _ (by unfold i64s;rw [List.getElem?_map,hv];rfl)⟩
theorem znr{P:Program}{ops:Array Oper}{o:Oper}{a:Act}{w:World}{K:Act→World→Prop}{Q:Exit→Act→World→Prop}{E:Prop}(hg:o.guard=none)(f:FuncId)(xs:Array Operand)(ts:Array TypeId)(_hop:o.op=Op.call { callee:=Callee.value (Operand.func f),args:=xs,argTypes:=ts })(args:Array Value)(hrun:(execOp a.eval o).run P w=.ok (.enter f args) w)(v:Value)
  (hc:Calls P f args w fun e w''=>e=.returned v∧w''=w) (hK:K (a.put o.dst v) w):if Region.wanted o (yielded ops a.tmps)=true then Oper.wp P o a w K Q else E:=by
 have hw:Region.wanted o (yielded ops a.tmps)=true:=by simp [Region.wanted,hg]
 rw [if_pos hw]
 unfold Oper.wp
 rw [hrun,Oper.upon_enter]
 refine hc.mono fun e w'' hh=>?_
 obtain⟨rfl,rfl⟩:=hh
 exact hK
def zoM(w:World)(b:Nat)(k:Kn)(z:Int):Ending→World→Prop:=fun e w'=>∃ g c,zaZ w b (.slice (some ⟨g,0,none⟩) (k.behind.length+1) c) ({ k with behind:=k.behind++[k.next+1] }.goTo z) e w'∧BhM w' (some ⟨g,0,none⟩) c (k.behind++[k.next+1])∧w.heap.size≤g
theorem zts{w:World}{b cap:Nat}{ao:Option Addr}{k:Kn}(h:KnM w b (.slice ao k.behind.length cap) k)(B:BhM w ao cap k.behind)(z:Int)(hlen:k.behind.length<15)(h0:0≤k.steps)(h1:k.steps≤100000)(n0:0≤k.next)(n1:k.next≤100000):
  Calls Tryz.prog 282 #[.pointer (some ⟨b,0,none⟩),.int .i64 z] w (zoM w b k z):=by
 have hfr:=zf4 h B.len
 have hcl:=fun W=>zvA (w:=W) ao k.behind.length cap B.len B.le B.top (fun e=>by obtain⟨e1,e2⟩:=B.nil e;rw [e1];exact⟨rfl,e2⟩)
 have c:=h.cB
 have n:=h.cN
 have hlt:=h.lt
 obtain⟨i0,hi0,hz0,hz1,hz2⟩:=info_parts Tryz.info3
 have t16:(((k.behind.length:Int)+1) == 16)=false:=by simpa using (by omega:¬(k.behind.length:Int)+1=16)
 have hold:∀ a,ao=some a→∀(j:Nat) u,(i64s k.behind)[j]?=some u→(w.alloc (.cells #[.int .i64 (k.next+1)] 3)).cell? (a.add j)=some u:=fun a ha j u hu=>by
  obtain⟨g,rfl⟩:=B.at0 a ha
  obtain⟨hg,hc⟩:=B.cell g ha
  unfold i64s at hu
  rw [List.getElem?_map] at hu
  cases hv:k.behind[j]? with
  | none=>rw [hv] at hu;cases hu
  | some v =>
   rw [hv] at hu
   cases hu
   rw [Addr.add_mid,Nat.zero_add,World.cell?_of_block (w:=w) (a:=⟨g,j,none⟩) (Below.heap_alloc _ _ _ hg)]
   exact hc j v hv
 have hold2:∀ a,ao=some a→∀(j:Nat) u,(i64s k.behind)[j]?=some u→(w.alloc (.cells #[.int .i64 (k.next+1)] 3)).drew.cell? (a.add j)=some u:=hold
 have hnews:∀(j:Nat) u,[Value.int .i64 (k.next+1)][j]?=some u→(w.alloc (.cells #[.int .i64 (k.next+1)] 3)).drew.cell? ((⟨w.heap.size,0,none⟩:Addr).add j)=some u:=World.news_of_block (cs:=#[.int .i64 (k.next+1)]) (t:=3) (fr:=(0,0)) (zjN w _ _)
 have hnil:ao=none→k.behind.length=0∧k.behind.length=0:=fun e=>by obtain⟨e1,e2⟩:=B.nil e;rw [e1];exact⟨rfl,rfl⟩
 have hl59:(i64s k.behind).length=k.behind.length*1:=by simp [i64s]
 have hone:∀ u∈[Value.int .i64 (k.next+1)],u.oneCell'=true:=by simp [Value.oneCell']
 have hK0:KnM (w.alloc (.cells #[.int .i64 (k.next+1)] 3)).drew b (.slice ao k.behind.length cap) k:=h.below box1.drew h.lt
 have hw1:IntKind.i64.wrap (k.next+1)=k.next+1:=zc8 _ (by omega) (by omega)
 go_enter Tryz.func282,Tryz.ntmps282
 go_wp2_with(first
  | (go_at_call 136;(with_reducible refine hfr.mono ?_);rintro e wx ⟨rfl,hww⟩;have hw2:=hww.symm;subst hw2))
 go_region_law (first
  | (refine znr rfl 283 #[.tmp 13] #[59] rfl #[.slice ao k.behind.length cap] (by kernel_rfl) (.slice ao k.behind.length k.behind.length) (hcl _) ?_)
  | (refine step_append_grows rfl (.tmp 14) (.tmp 20) 59 rfl 3 i0 (.int .i64 0) 1 8 Tryz.under59 hi0 hz0 hz1 hz2 rfl (by decide) ao k.behind.length k.behind.length (i64s k.behind) rfl hnil hl59 hold2 ⟨w.heap.size,0,none⟩ 1 1 [.int .i64 (k.next+1)] rfl rfl hnews hone (by omega) (by unfold maxLen;omega) (by omega) ?_;intro v' w4 hown4 hgr4;obtain⟨g4,c4,rfl,hg4,hg4l⟩:=hown4.form (by omega);have hK4:=hK0.grown0 hgr4;have d4:=hK4.cB;have f4:=hK4.fz 49;have hK5:=hK4.putB (.slice (some ⟨g4,0,none⟩) (k.behind.length+1) c4) (k.behind++[k.next+1])))
 all_goals go_wp2_with(go_at_call 229;(with_reducible refine(zfY hK5 z h0 h1).mono ?_);rintro e w6 ⟨g,rfl,hg,hc,hk,hgr⟩)
 all_goals go_ret
 all_goals have G4:w.grownBy w4 (some b):=zj0 (zaQ (b:=some b) box1.drew) hgr4
 all_goals have hsz:((w.alloc (.cells #[.int .i64 (k.next+1)] 3)).drew).heap.size=w.heap.size+1:=by simp
 all_goals rw [hsz] at hg4
 all_goals have G5:w4.grownBy (w4.setCell ⟨b,49,none⟩ (.slice (some ⟨g4,0,none⟩) (k.behind.length+1) c4)) (some b):=zac (Below.refl _ _)
 all_goals have hrow:(i64s k.behind++[Value.int .i64 (k.next+1)])=i64s (k.behind++[k.next+1]):=by simp [i64s]
 all_goals rw [hrow] at hown4
 all_goals exact⟨g4,c4,⟨g,rfl,Nat.le_trans (Nat.le_trans G4.size G5.size) hg,hc,hk,zag (zag G4 G5) hgr⟩,(zyt hown4 (by omega) hg4l).grown (zag G5 hgr) (fun a ha=>by cases ha;show ¬g4=b;omega),by omega⟩
end Go.Proofs.YtfpgjkbjbbgciaaGreatDoor
