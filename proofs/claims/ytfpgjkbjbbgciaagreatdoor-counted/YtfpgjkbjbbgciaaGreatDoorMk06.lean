import Derived.Test.YtfpgjkbjbbgciaaGreatDoorMk04
import Derived.Test.YtfpgjkbjbbgciaaGreatDoorMk05
set_option maxRecDepth 100000
set_option maxHeartbeats 8000000
namespace Go.Proofs.YtfpgjkbjbbgciaaGreatDoor
section
open Go.RowKit Sp
section
variable {w w':World} {q B:Nat} {line:Int} {word nm:ByteArray} {r0 r1 r2 n:Int}
theorem StmAt.below(h:StmAt w q line word nm r0 r1 r2 n)(hb:Below B w w')(hq:q<B):StmAt w' q line word nm r0 r1 r2 n:=by
 obtain⟨c,f⟩:=zhL hb;exact⟨(c q 0 hq).trans h.c0,(c q 1 hq).trans h.c1,(c q 2 hq).trans h.c2,(c q 3 hq).trans h.c3,(c q 4 hq).trans h.c4,(c q 5 hq).trans h.c5,(c q 6 hq).trans h.c6,(c q 7 hq).trans h.c7,fun o=>(f q o hq).trans (h.fz o)⟩
theorem StmAt.drew(h:StmAt w q line word nm r0 r1 r2 n):StmAt w.drew q line word nm r0 r1 r2 n:=⟨h.c0,h.c1,h.c2,h.c3,h.c4,h.c5,h.c6,h.c7,h.fz⟩
theorem StmAt.set3(h:StmAt w q line word nm r0 r1 r2 n)(a:Int):StmAt (w.setCell ⟨q,3,none⟩ (.int .i64 a)) q line word nm a r1 r2 n:=by
 refine⟨?_,?_,?_,?_,?_,?_,?_,?_,fun o=>?_⟩
 ·rw [World.cell?_setCell_other];exact h.c0;simp
 ·rw [World.cell?_setCell_other];exact h.c1;simp
 ·rw [World.cell?_setCell_other];exact h.c2;simp
 ·exact World.cell?_setCell_same w _ _ h.c3
 ·rw [World.cell?_setCell_other];exact h.c4;simp
 ·rw [World.cell?_setCell_other];exact h.c5;simp
 ·rw [World.cell?_setCell_other];exact h.c6;simp
 ·rw [World.cell?_setCell_other];exact h.c7;simp
 ·rw [World.frozen?_setCell];exact h.fz o
theorem StmAt.set4(h:StmAt w q line word nm r0 r1 r2 n)(a:Int):StmAt (w.setCell ⟨q,4,none⟩ (.int .i64 a)) q line word nm r0 a r2 n:=by
 refine⟨?_,?_,?_,?_,?_,?_,?_,?_,fun o=>?_⟩
 ·rw [World.cell?_setCell_other];exact h.c0;simp
 ·rw [World.cell?_setCell_other];exact h.c1;simp
 ·rw [World.cell?_setCell_other];exact h.c2;simp
 ·rw [World.cell?_setCell_other];exact h.c3;simp
 ·exact World.cell?_setCell_same w _ _ h.c4
 ·rw [World.cell?_setCell_other];exact h.c5;simp
 ·rw [World.cell?_setCell_other];exact h.c6;simp
 ·rw [World.cell?_setCell_other];exact h.c7;simp
 ·rw [World.frozen?_setCell];exact h.fz o
theorem StmAt.set5(h:StmAt w q line word nm r0 r1 r2 n)(a:Int):StmAt (w.setCell ⟨q,5,none⟩ (.int .i64 a)) q line word nm r0 r1 a n:=by
 refine⟨?_,?_,?_,?_,?_,?_,?_,?_,fun o=>?_⟩
 ·rw [World.cell?_setCell_other];exact h.c0;simp
 ·rw [World.cell?_setCell_other];exact h.c1;simp
 ·rw [World.cell?_setCell_other];exact h.c2;simp
 ·rw [World.cell?_setCell_other];exact h.c3;simp
 ·rw [World.cell?_setCell_other];exact h.c4;simp
 ·exact World.cell?_setCell_same w _ _ h.c5
 ·rw [World.cell?_setCell_other];exact h.c6;simp
 ·rw [World.cell?_setCell_other];exact h.c7;simp
 ·rw [World.frozen?_setCell];exact h.fz o
theorem StmAt.set6(h:StmAt w q line word nm r0 r1 r2 n)(a:Int):StmAt (w.setCell ⟨q,6,none⟩ (.int .i64 a)) q line word nm r0 r1 r2 a:=by
 refine⟨?_,?_,?_,?_,?_,?_,?_,?_,fun o=>?_⟩
 ·rw [World.cell?_setCell_other];exact h.c0;simp
 ·rw [World.cell?_setCell_other];exact h.c1;simp
 ·rw [World.cell?_setCell_other];exact h.c2;simp
 ·rw [World.cell?_setCell_other];exact h.c3;simp
 ·rw [World.cell?_setCell_other];exact h.c4;simp
 ·rw [World.cell?_setCell_other];exact h.c5;simp
 ·exact World.cell?_setCell_same w _ _ h.c6
 ·rw [World.cell?_setCell_other];exact h.c7;simp
 ·rw [World.frozen?_setCell];exact h.fz o
theorem StmAt.set7(h:StmAt w q line word nm r0 r1 r2 n)(y:ByteArray):StmAt (w.setCell ⟨q,7,none⟩ (.string y)) q line word y r0 r1 r2 n:=by
 refine⟨?_,?_,?_,?_,?_,?_,?_,?_,fun o=>?_⟩
 ·rw [World.cell?_setCell_other];exact h.c0;simp
 ·rw [World.cell?_setCell_other];exact h.c1;simp
 ·rw [World.cell?_setCell_other];exact h.c2;simp
 ·rw [World.cell?_setCell_other];exact h.c3;simp
 ·rw [World.cell?_setCell_other];exact h.c4;simp
 ·rw [World.cell?_setCell_other];exact h.c5;simp
 ·rw [World.cell?_setCell_other];exact h.c6;simp
 ·exact World.cell?_setCell_same w _ _ h.c7
 ·rw [World.frozen?_setCell];exact h.fz o
theorem StmAt.lt(h:StmAt w q line word nm r0 r1 r2 n):q<w.heap.size:=by have:=World.block_lt_of_cell? w _ h.c0;simpa using this
end
theorem zah{w w1:World}{q o:Nat}{v:Value}(hb:Below w.heap.size w w1):w.grownBy (w1.setCell ⟨q,o,none⟩ v) (some q) :=
 ⟨hb.os,hb.tape,hb.output,by have:=hb.size;simpa [World.setCell] using this,fun k hk hne=>(Below.heap_setCell w1 _ _ k (fun e=>hne (by rw [e]))).trans (hb.block k hk)⟩
theorem zd9{w w':World}{r:Option Nat}(h:w.grownBy w' r):w.grownBy w'.drew r:=⟨h.os,h.tape,h.output,h.size,h.block⟩
theorem zpe(w:World)(hw:LibW w)(q:Nat)(place line:Int)(word nm x:ByteArray)(r0 r1 r2 n:Int)(hS:StmAt w q line word nm r0 r1 r2 n)(hx:x.size≤1048576):
  Calls Tryz.prog 150 #[.pointer (some ⟨q,0,none⟩),.int .i64 place,.int .i64 1,.string x] w fun e w'=>e=.returned (.bool (zb3 x).2)∧w.grownBy w' (some q)∧StmAt w' q line word nm r0 r1 r2 (zcc x):=by
 have b:=hS.lt;have hc6:=hS.c6;have hf6:=hS.fz 6;go_enter Tryz.func150,Tryz.ntmps150;go_wp2_with(first|(go_at_call 166;refine(zvD x _ hw hx).mono ?_;rintro e w1 ⟨rfl,a⟩;obtain⟨hc,hf⟩:=zhL a))
 go_ret;exact⟨rfl,zah a,(hS.below a b).set6 _⟩
theorem zlw(w:World)(q:Nat)(place line:Int)(word nm x:ByteArray)(r0 r1 r2 n:Int)(hS:StmAt w q line word nm r0 r1 r2 n)(hx:x.size≤1048576):
  Calls Tryz.prog 150 #[.pointer (some ⟨q,0,none⟩),.int .i64 place,.int .i64 2,.string x] w fun e w'=>e=.returned (.bool (za6 x))∧w.grownBy w' (some q)∧StmAt w' q line word x r0 r1 r2 n:=by
 have b:=hS.lt;have hc7:=hS.c7;have hf7:=hS.fz 7;go_enter Tryz.func150,Tryz.ntmps150;go_wp2_with(first|(go_at_call 147;refine(zem x _ hx).mono ?_;rintro e w1 ⟨rfl,a⟩;obtain⟨hc,hf⟩:=zhL a))
 go_ret;exact⟨rfl,zah a,(hS.below a b).set7 _⟩
theorem zlx(w:World)(q:Nat)(line:Int)(word nm x:ByteArray)(r0 r1 r2 n:Int)(hS:StmAt w q line word nm r0 r1 r2 n)(hx:x.size≤1048576):
  Calls Tryz.prog 150 #[.pointer (some ⟨q,0,none⟩),.int .i64 0,.int .i64 0,.string x] w fun e w'=>e=.returned (.bool (zeU x))∧w.grownBy w' (some q)∧StmAt w' q line word nm (zap x) r1 r2 n:=by
 have hq:=hS.lt;have hc:=hS.c3;have hf:=hS.fz 3;go_enter Tryz.func150,Tryz.ntmps150;go_wp2;go_region_with(go_at_call 165;refine(zkt x _ (by unfold maxLen;omega)).mono ?_;rintro e wx ⟨rfl,a⟩;have b:=a.symm;subst b)
 all_goals go_wp2
 all_goals go_ret
 all_goals refine⟨rfl,?_,?_⟩
 ·exact zd9 (zah (Below.refl _ _))
 ·exact(hS.set3 _).drew
theorem zly(w:World)(q:Nat)(line:Int)(word nm x:ByteArray)(r0 r1 r2 n:Int)(hS:StmAt w q line word nm r0 r1 r2 n)(hx:x.size≤1048576):
  Calls Tryz.prog 150 #[.pointer (some ⟨q,0,none⟩),.int .i64 1,.int .i64 0,.string x] w fun e w'=>e=.returned (.bool (zeU x))∧w.grownBy w' (some q)∧StmAt w' q line word nm r0 (zap x) r2 n:=by
 have hq:=hS.lt;have hc:=hS.c4;have hf:=hS.fz 4;go_enter Tryz.func150,Tryz.ntmps150;go_wp2;go_region_with(go_at_call 165;refine(zkt x _ (by unfold maxLen;omega)).mono ?_;rintro e wx ⟨rfl,a⟩;have b:=a.symm;subst b)
 all_goals go_wp2
 all_goals go_ret
 all_goals refine⟨rfl,?_,?_⟩
 ·exact zd9 (zah (Below.refl _ _))
 ·exact(hS.set4 _).drew
theorem zlz(w:World)(q:Nat)(line:Int)(word nm x:ByteArray)(r0 r1 r2 n:Int)(hS:StmAt w q line word nm r0 r1 r2 n)(hx:x.size≤1048576):
  Calls Tryz.prog 150 #[.pointer (some ⟨q,0,none⟩),.int .i64 2,.int .i64 0,.string x] w fun e w'=>e=.returned (.bool (zeU x))∧w.grownBy w' (some q)∧StmAt w' q line word nm r0 r1 (zap x) n:=by
 have hq:=hS.lt;have hc:=hS.c5;have hf:=hS.fz 5;go_enter Tryz.func150,Tryz.ntmps150;go_wp2;go_region_with(go_at_call 165;refine(zkt x _ (by unfold maxLen;omega)).mono ?_;rintro e wx ⟨rfl,a⟩;have b:=a.symm;subst b)
 all_goals go_wp2
 all_goals go_ret
 all_goals refine⟨rfl,?_,?_⟩
 ·exact zd9 (zah (Below.refl _ _))
 ·exact(hS.set5 _).drew
end
namespace Sp
def i64(x:Int):Prop:=-9223372036854775808≤x∧x≤9223372036854775807
theorem zdG(x:Int):i64 (w64 x):=by unfold i64 w64;omega
theorem zfX{x:Int}(h:i64 x):w64 x=x:=by unfold i64 at h;unfold w64;omega
theorem ziA(x:Int):(w64 x)%18446744073709551616=x%18446744073709551616:=by unfold w64;omega
theorem zmm{x y:Int}(h:x%18446744073709551616=y%18446744073709551616):w64 x=w64 y:=by unfold w64;omega
structure Rg where
 lo:Int
 hi:Int
def Rg.In(r:Rg)(x:Int):Prop:=r.lo≤x∧x≤r.hi
def Rg.Ok(r:Rg):Prop:=i64 r.lo∧i64 r.hi∧r.lo≤r.hi
def only(n:Int):Rg:=⟨n,n⟩
def anyR:Rg:=⟨-9223372036854775808,9223372036854775807⟩
theorem zew(n:Int):(only n).In n:=⟨Int.le_refl _,Int.le_refl _⟩
theorem ziB{n:Int}(h:i64 n):(only n).Ok:=⟨h,h,Int.le_refl _⟩
theorem ztD{x:Int}(h:i64 x):anyR.In x:=h
theorem ztE:anyR.Ok:=by unfold Rg.Ok anyR i64;dsimp only;omega
def Rg.within(r o:Rg):Bool:=decide (o.lo≤r.lo)&&decide (r.hi≤o.hi)
def Rg.or(r o:Rg):Rg:=⟨min r.lo o.lo,max r.hi o.hi⟩
theorem zkH{r:Rg}{x:Int}(h:r.In x)(o:Rg):(r.or o).In x:=by unfold Rg.In Rg.or at *;dsimp only;omega
theorem zh6{o:Rg}{x:Int}(h:o.In x)(r:Rg):(r.or o).In x:=by unfold Rg.In Rg.or at *;dsimp only;omega
theorem zwB{r o:Rg}(h:r.Ok)(h':o.Ok):(r.or o).Ok:=by unfold Rg.Ok Rg.or i64 at *;dsimp only;omega
def Rg.width(r:Rg):Int:=(r.hi-r.lo)%18446744073709551616
theorem zp4{r:Rg}(h:r.Ok):r.width=r.hi-r.lo:=by unfold Rg.Ok i64 at h;unfold Rg.width;omega
def zeW(low:Int)(one other:Rg):Rg :=
 if 18446744073709551616≤one.width+other.width∨w64 (low+(one.width+other.width))<low then anyR else⟨low,w64 (low+(one.width+other.width))⟩
theorem ztF{low d:Int}{one other:Rg}(h1:one.Ok)(h2:other.Ok)(hl:i64 low)(h0:0≤d)(hd:d≤(one.hi-one.lo)+(other.hi-other.lo)){x:Int}(hx:x%18446744073709551616=(low+d)%18446744073709551616):(zeW low one other).In (w64 x):=by
 unfold zeW;rw [zp4 h1,zp4 h2];split
 ·exact ztD (zdG x)
 ·rename_i h;have a:=zdG (low+(one.hi-one.lo+(other.hi-other.lo)));have b:=ziA (low+(one.hi-one.lo+(other.hi-other.lo)));unfold i64 at hl a;unfold Rg.In;dsimp only;generalize w64 (low+(one.hi-one.lo+(other.hi-other.lo)))=hi at h a b ⊢;generalize one.hi-one.lo+(other.hi-other.lo)=W at *;have e:hi=low+W:=by omega
  have e2:w64 x=low+d:=by rw [zmm hx];exact zfX (by unfold i64;omega)
  omega
theorem ztG{low:Int}{one other:Rg}(hl:i64 low):(zeW low one other).Ok:=by
 unfold zeW;split
 ·exact ztE
 ·rename_i h;exact⟨hl,zdG _,by dsimp only;omega⟩
def Rg.plus(r o:Rg):Rg:=zeW (w64 (r.lo+o.lo)) r o
def Rg.minus(r o:Rg):Rg:=zeW (w64 (r.lo-o.hi)) r o
theorem ztH{r o:Rg}{x y:Int}(hr:r.Ok)(ho:o.Ok)(hx:r.In x)(hy:o.In y):(r.plus o).In (w64 (x+y)):=by
 unfold Rg.In at hx hy;refine ztF (d:=(x-r.lo)+(y-o.lo)) hr ho (zdG _) (by omega) (by omega) ?_;have:=ziA (r.lo+o.lo);omega
theorem zwC{r o:Rg}{x y:Int}(hr:r.Ok)(ho:o.Ok)(hx:r.In x)(hy:o.In y):(r.minus o).In (w64 (x-y)):=by
 unfold Rg.In at hx hy;refine ztF (d:=(x-r.lo)+(o.hi-y)) hr ho (zdG _) (by omega) (by omega) ?_;have:=ziA (r.lo-o.hi);omega
theorem ztI(r o:Rg):(r.plus o).Ok:=ztG (zdG _)
theorem zwD(r o:Rg):(r.minus o).Ok:=ztG (zdG _)
def zbP(a b:Int):Bool:=if a=-1 then decide (b=-9223372036854775808) else decide (¬a=0)&&decide (¬(w64 (a*b)).tdiv a=b)
theorem zcj{a b:Int}(ha:i64 a)(hb:i64 b)(h:zbP a b=false):i64 (a*b):=by
 unfold zbP at h;split at h
 ·rename_i e;subst e;simp at h;unfold i64 at *;omega
 ·rename_i e;simp only [Bool.and_eq_false_iff,decide_eq_false_iff_not,Decidable.not_not] at h;rcases h with h|h
  ·subst h;simp [i64]
  ·have hm:=ziA (a*b);have i:=zdG (a*b);have d:=Int.mul_tdiv_add_tmod (w64 (a*b)) a;rw [h] at d;by_cases g:a=0
   ·subst g;simp [i64]
   ·have c:(Int.tmod (w64 (a*b)) a).natAbs<a.natAbs:=by
     rw [Int.natAbs_tmod];exact Nat.mod_lt _ (by omega)
    generalize Int.tmod (w64 (a*b)) a=t at d c;generalize a*b=p at *;have:t=0:=by unfold i64 at *;omega
    have f:w64 p=p:=by omega
    rw [←f];exact i
def Rg.times(r o:Rg):Rg :=
 if r.lo=r.hi∧o.lo=o.hi then only (w64 (r.lo*o.lo))
 else if zbP r.lo o.lo=true∨zbP r.lo o.hi=true∨zbP r.hi o.lo=true∨zbP r.hi o.hi=true then anyR
 else⟨min (min (min (r.lo*o.lo) (r.lo*o.hi)) (r.hi*o.lo)) (r.hi*o.hi),max (max (max (r.lo*o.lo) (r.lo*o.hi)) (r.hi*o.lo)) (r.hi*o.hi)⟩
theorem zf0{a b x c:Int}(h1:a≤x)(h2:x≤b):min (a*c) (b*c)≤x*c∧x*c≤max (a*c) (b*c):=by
 rcases Int.le_total 0 c with h|h
 ·have:=Int.mul_le_mul_of_nonneg_right h1 h;have:=Int.mul_le_mul_of_nonneg_right h2 h;omega
 ·have:=Int.mul_le_mul_of_nonpos_right h1 h;have:=Int.mul_le_mul_of_nonpos_right h2 h;omega
theorem zwE{r o:Rg}{x y:Int}(hr:r.Ok)(ho:o.Ok)(hx:r.In x)(hy:o.In y):(r.times o).In (w64 (x*y)):=by
 unfold Rg.times;split
 ·rename_i h;unfold Rg.In at hx hy;have e1:x=r.lo:=by omega
  have d:y=o.lo:=by omega
  rw [e1,d];exact zew _
 ·split
  ·exact ztD (zdG _)
  ·rename_i h;simp only [not_or,Bool.not_eq_true] at h;obtain⟨j,k,l,m⟩:=h;have e:=zcj hr.1 ho.1 j;have f:=zcj hr.1 ho.2.1 k;have g:=zcj hr.2.1 ho.1 l;have i:=zcj hr.2.1 ho.2.1 m;obtain⟨a1,a2⟩:=zf0 (c:=y) hx.1 hx.2;have a:=zf0 (c:=r.lo) hy.1 hy.2;have b:=zf0 (c:=r.hi) hy.1 hy.2;rw [Int.mul_comm o.lo,Int.mul_comm o.hi,Int.mul_comm y] at a b;unfold i64 at e f g i;generalize r.lo*o.lo=p1 at *;generalize r.lo*o.hi=p2 at *;generalize r.hi*o.lo=p3 at *;generalize r.hi*o.hi=p4 at *;generalize r.lo*y=q1 at *;generalize r.hi*y=q2 at *;rw [zfX (by unfold i64;omega)];unfold Rg.In;dsimp only;omega
theorem zwF{r o:Rg}(hr:r.Ok)(ho:o.Ok):(r.times o).Ok:=by
 unfold Rg.times;split
 ·exact ziB (zdG _)
 ·split
  ·exact ztE
  ·rename_i h;simp only [not_or,Bool.not_eq_true] at h;obtain⟨a,b,c,d⟩:=h;have i1:=zcj hr.1 ho.1 a;have i2:=zcj hr.1 ho.2.1 b;have i3:=zcj hr.2.1 ho.1 c;have i4:=zcj hr.2.1 ho.2.1 d;unfold Rg.Ok i64 at *;dsimp only;generalize r.lo*o.lo=p1 at *;generalize r.lo*o.hi=p2 at *;generalize r.hi*o.lo=p3 at *;generalize r.hi*o.hi=p4 at *;omega
def zdl(l r:Rg):Option (Rg × Rg):=if r.hi≤l.lo then none else some (⟨l.lo,min l.hi (r.hi-1)⟩,⟨max (l.lo+1) r.lo,r.hi⟩)
def zaD(l r:Rg):Option (Rg × Rg):=if l.hi<r.lo then none else some (⟨max l.lo r.lo,l.hi⟩,⟨r.lo,min l.hi r.hi⟩)
def zex(l r:Rg):Option (Rg × Rg):=if max l.lo r.lo≤min l.hi r.hi then some (⟨max l.lo r.lo,min l.hi r.hi⟩,⟨max l.lo r.lo,min l.hi r.hi⟩) else none
def Rg.without(r o:Rg):Rg:=if o.lo=o.hi then(if o.lo=r.lo then⟨r.lo+1,r.hi⟩ else if o.lo=r.hi then⟨r.lo,r.hi-1⟩ else r) else r
def zbd(l r:Rg):Option (Rg × Rg):=if(l.lo=r.lo∧l.hi=r.hi)∧l.lo=l.hi then none else some (l.without r,r.without l)
theorem zyK{l r:Rg}{x y:Int}(hx:l.In x)(hy:r.In y)(h:x<y):∃ a b,zdl l r=some (a,b)∧a.In x∧b.In y:=by
 unfold Rg.In at *;unfold zdl;rw [if_neg (by omega)];exact⟨_,_,rfl,by dsimp only;omega,by dsimp only;omega⟩
theorem zqZ{l r:Rg}{x y:Int}(hx:l.In x)(hy:r.In y)(h:¬x<y):∃ a b,zaD l r=some (a,b)∧a.In x∧b.In y:=by
 unfold Rg.In at *;unfold zaD;rw [if_neg (by omega)];exact⟨_,_,rfl,by dsimp only;omega,by dsimp only;omega⟩
theorem zyL{l r:Rg}{x y:Int}(hx:l.In x)(hy:r.In y)(h:x=y):∃ a b,zex l r=some (a,b)∧a.In x∧b.In y:=by
 unfold Rg.In at *;unfold zex;rw [if_pos (by omega)];exact⟨_,_,rfl,by dsimp only;omega,by dsimp only;omega⟩
theorem zka{r o:Rg}{x y:Int}(hx:r.In x)(hy:o.In y)(h:¬x=y):(r.without o).In x:=by
 unfold Rg.In at *;unfold Rg.without
 repeat' split
 all_goals(try dsimp only)
 all_goals omega
theorem zra{l r:Rg}{x y:Int}(hx:l.In x)(hy:r.In y)(h:¬x=y):∃ a b,zbd l r=some (a,b)∧a.In x∧b.In y:=by
 have c:=zka hx hy h;have d:=zka hy hx (fun e=>h e.symm);unfold zbd;rw [if_neg (by unfold Rg.In at hx hy;omega)];exact⟨_,_,rfl,c,d⟩
theorem zyM{l r a b:Rg}(hl:l.Ok)(hr:r.Ok)(h:zdl l r=some (a,b)):a.Ok∧b.Ok:=by
 unfold zdl at h;split at h
 ·cases h
 ·simp only [Option.some.injEq,Prod.mk.injEq] at h;obtain⟨rfl,rfl⟩:=h;unfold Rg.Ok i64 at *;dsimp only;omega
theorem zrb{l r a b:Rg}(hl:l.Ok)(hr:r.Ok)(h:zaD l r=some (a,b)):a.Ok∧b.Ok:=by
 unfold zaD at h;split at h
 ·cases h
 ·simp only [Option.some.injEq,Prod.mk.injEq] at h;obtain⟨rfl,rfl⟩:=h;unfold Rg.Ok i64 at *;dsimp only;omega
theorem zyN{l r a b:Rg}(hl:l.Ok)(hr:r.Ok)(h:zex l r=some (a,b)):a.Ok∧b.Ok:=by
 unfold zex at h;split at h
 ·simp only [Option.some.injEq,Prod.mk.injEq] at h;obtain⟨rfl,rfl⟩:=h;unfold Rg.Ok i64 at *;dsimp only;omega
 ·cases h
theorem zrc{l r a b:Rg}(hl:l.Ok)(hr:r.Ok)(h:zbd l r=some (a,b)):a.Ok∧b.Ok:=by
 unfold zbd at h;split at h
 ·cases h
 ·rename_i hn;simp only [Option.some.injEq,Prod.mk.injEq] at h;obtain⟨rfl,rfl⟩:=h;unfold Rg.Ok i64 at *;unfold Rg.without;refine⟨?_,?_⟩;all_goals
   repeat' split
   all_goals(try dsimp only)
   all_goals omega
end Sp
end Go.Proofs.YtfpgjkbjbbgciaaGreatDoor
