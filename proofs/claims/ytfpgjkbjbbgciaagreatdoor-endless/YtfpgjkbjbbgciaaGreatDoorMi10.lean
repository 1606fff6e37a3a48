import Derived.Test.YtfpgjkbjbbgciaaGreatDoorMi05
set_option maxRecDepth 100000
set_option maxHeartbeats 8000000
namespace Go.Proofs.YtfpgjkbjbbgciaaGreatDoor
namespace Sp
def badB(L:List Said)(q k:Nat):Bool:=if q=0 then zfh L k else if q=1 then zco L k else zdy L k
def pass(L:List Said)(q j:Nat)(c:Int × Int):Int × Int :=
 if j<L.length then(if badB L q j=true then(3+(q:Int),(j:Int)+1) else pass L q (j+1) c) else c
termination_by L.length-j
theorem zfN(L:List Said)(q j:Nat)(c:Int × Int)(h:¬j<L.length):pass L q j c=c:=by rw [pass,if_neg h]
theorem zfO(L:List Said)(q j:Nat)(c:Int × Int)(h:j<L.length)(h':badB L q j=true):pass L q j c=(3+(q:Int),(j:Int)+1):=by rw [pass,if_pos h,if_pos h']
theorem zc3(L:List Said)(q j:Nat)(c:Int × Int)(h:j<L.length)(h':badB L q j=false):pass L q j c=pass L q (j+1) c:=by rw [pass,if_pos h,if_neg (by simp [h'])]
def tail(L:List Said)(q:Nat):Int × Int:=if q=0 then pass L 0 0 (pass L 1 0 (pass L 2 0 (0,0))) else if q=1 then pass L 1 0 (pass L 2 0 (0,0)) else if q=2 then pass L 2 0 (0,0) else(0,0)
def zb6(L:List Said)(i:Nat):Int × Int :=
 if h:i<L.length then(if L[i].kind=0 then zb6 L (i+1) else if L[i].kind=102 then tail L 0 else(2,(i:Int)+1)) else(2,0)
termination_by L.length-i
theorem zhY(L:List Said)(i:Nat)(h:¬i<L.length):zb6 L i=(2,0):=by rw [zb6,dif_neg h]
theorem zj2(L:List Said)(i:Nat)(h:i<L.length)(h':L[i].kind=0):zb6 L i=zb6 L (i+1):=by rw [zb6,dif_pos h,if_pos h']
theorem zhZ(L:List Said)(i:Nat)(h:i<L.length)(h':¬L[i].kind=0)(h2:L[i].kind=102):zb6 L i=tail L 0:=by rw [zb6,dif_pos h,if_neg h',if_pos h2]
theorem zlc(L:List Said)(i:Nat)(h:i<L.length)(h':¬L[i].kind=0)(h2:¬L[i].kind=102):zb6 L i=(2,(i:Int)+1):=by rw [zb6,dif_pos h,if_neg h',if_neg h2]
def zbW(A:List ByteArray)(i:Nat):Int × Int :=
 if h:i<A.length then(if(say A[i]).ok=true then zbW A (i+1) else(1,(i:Int)+1)) else zb6 (A.map say) 0
termination_by A.length-i
theorem zia(A:List ByteArray)(i:Nat)(h:¬i<A.length):zbW A i=zb6 (A.map say) 0:=by rw [zbW,dif_neg h]
theorem zfP(A:List ByteArray)(i:Nat)(h:i<A.length)(h':(say A[i]).ok=true):zbW A i=zbW A (i+1):=by rw [zbW,dif_pos h,if_pos h']
theorem zfQ(A:List ByteArray)(i:Nat)(h:i<A.length)(h':(say A[i]).ok=false):zbW A i=(1,(i:Int)+1):=by rw [zbW,dif_pos h,if_neg (by simp [h'])]
def zcg(s:ByteArray):Int × Int:=if 4000<s.size∨300<(lines s).length then(6,0) else zbW (lines s) 0
theorem zfw(s:ByteArray)(f i:Nat):1≤(zbN s f i).length∧(zbN s f i).length≤s.size-i+1:=by
 by_cases h:i<s.size
 ·by_cases h':bt s i=10
  ·rw [zfp s f i h h']
   have:=zfw s (i+1) (i+1)
   simp;omega
  ·rw [zgs s f i h h']
   have:=zfw s f (i+1)
   omega
 ·rw [zfo s f i h];simp
termination_by s.size-i
theorem zsl(s:ByteArray):1≤(lines s).length∧(lines s).length≤s.size+1:=zfw s 0 0
theorem zdY(s:ByteArray)(f i:Nat):∀ x∈zbN s f i,x.size≤s.size:=by
 by_cases h:i<s.size
 ·by_cases h':bt s i=10
  ·rw [zfp s f i h h']
   intro x hx
   rw [List.mem_cons] at hx
   rcases hx with rfl|hx
   ·rw [ByteArray.size_extract];omega
   ·exact zdY s (i+1) (i+1) x hx
  ·rw [zgs s f i h h']
   exact zdY s f (i+1)
 ·rw [zfo s f i h]
  intro x hx
  simp at hx;subst hx
  rw [ByteArray.size_extract];omega
termination_by s.size-i
theorem zfx(s:ByteArray):∀ x∈lines s,x.size≤s.size:=zdY s 0 0
theorem zxq(s:ByteArray)(h:(say s).ok=true):Wf (say s):=by
 unfold say at h ⊢
 split at h
 ·rename_i hv
  rw [if_pos hv]
  generalize zbv s=l at h ⊢
  unfold sayW at h ⊢
  split at h
  ·exact .inl ⟨rfl,rfl⟩
  ·rename_i x r
   by_cases hf:zep x=true
   ·rw [if_pos hf] at h ⊢
    simp only [Bool.and_eq_true,decide_eq_true_eq] at h
    exact .inr (.inl ⟨rfl,h.1⟩)
   ·rw [if_neg hf] at h ⊢
    by_cases hl:(x :: r).length=1∧zfq x=58
    ·rw [if_pos hl] at h ⊢
     exact .inr (.inr (.inl ⟨rfl,rfl⟩))
    ·rw [if_neg hl] at h ⊢
     simp only at h
     split at h
     ·cases h
     ·rename_i hs
      refine .inr (.inr (.inr ⟨rfl,by simp,?_⟩))
      have h3:(zaa x).length≤3:=by
       unfold zaa
       repeat' split
       all_goals decide
      have h4:(x :: r).length=(zaa x).length+1:=by
       rcases Classical.em ((x :: r).length=(zaa x).length+1) with h|h
       ·exact h
       ·exact absurd (.inr h) hs
      show(x :: r).length≤4
      omega
 ·cases h
end Sp
section
open Go.RowKit Sp
def zaV(m:Mc)(ov:Value)(line:Int):List Value:=[.int .i64 m.steps]++((List.range 8).map (fun i=>Value.int .i64 (m.regs i))++((List.range 16).map (fun i=>Value.int .i64 (m.cells i))++[ov,.int .i64 m.frames,.int .i64 m.peak,.int .i64 line,.int .i64 m.fin]))
theorem zbX(m:Mc)(ov:Value)(line:Int):(zaV m ov line).length=30:=by simp [zaV]
theorem zcH(m:Mc)(ao:Option Addr)(n c:Nat)(line:Int):(zaV m (.slice ao n c) line).toArray.all (·.oneCell')=true:=by
 refine all_oneCell_toArray fun v hv=>?_
 simp only [zaV,List.mem_append,List.mem_map,List.mem_cons,List.mem_nil_iff,or_false] at hv
 rcases hv with rfl|⟨i,_,rfl⟩|⟨i,_,rfl⟩|rfl|rfl|rfl|rfl|rfl <;> rfl
theorem zlo(m:Mc)(ov:Value)(line:Int):(zaV m ov line)[28]?=some (.int .i64 line):=by simp [zaV]
theorem zqa(m:Mc)(ov:Value)(line l2:Int):(zaV m ov line).set 28 (.int .i64 l2)=zaV m ov l2:=by simp [zaV,List.range_succ]
theorem zlp{w:World}{b o n:Nat}{cs:List Value}{v u:Value}(h:w.rangeAt b o cs)(hn:w.cell? ⟨b,o+n,none⟩=some u):(w.setCell ⟨b,o+n,none⟩ v).rangeAt b o (cs.set n v):=by
 intro j x hx
 by_cases e:j=n
 ·subst e
  rw [List.getElem?_set] at hx
  split at hx
  ·split at hx
   ·rw [←Option.some.inj hx];exact World.cell?_setCell_same w _ _ hn
   ·cases hx
  ·rename_i hne;exact absurd rfl hne
 ·rw [List.getElem?_set_ne (by omega)] at hx
  rw [World.cell?_setCell_other]
  ·exact h j x hx
  ·simp
theorem zih{w:World}{b o n:Nat}(h:w.there b o n)(p:Addr)(v:Value):(w.setCell p v).there b o n:=fun j hj=>by
 obtain⟨h1,h2⟩:=h j hj
 refine⟨?_,by simpa using h2⟩
 obtain⟨u,hu⟩:=Option.isSome_iff_exists.1 h1
 obtain⟨x,hx⟩:=cell?_setCell_some (w:=w) (p:=p) (x:=v) (q:=⟨b,o+j,none⟩) (v:=u) hu
 rw [hx];rfl
abbrev Z34:Obj:=.cells #[.int .i64 0,.int .i64 0,.int .i64 0,.int .i64 0,.int .i64 0,.int .i64 0,.int .i64 0,.int .i64 0,.int .i64 0,.int .i64 0,.int .i64 0,.int .i64 0,.int .i64 0,.int .i64 0,.int .i64 0,.int .i64 0,.int .i64 0,.int .i64 0,.int .i64 0,.int .i64 0,.int .i64 0,.int .i64 0,.int .i64 0,.int .i64 0,.int .i64 0,.slice none 0 0,.int .i64 0,.int .i64 0,.int .i64 0,.int .i64 0] 34
theorem zfS(w:World):(w.alloc Z34).there w.heap.size 0 30:=fun j hj=>by
 refine⟨?_,by simp⟩
 have h:=World.cell?_alloc_new (w:=w) #[.int .i64 0,.int .i64 0,.int .i64 0,.int .i64 0,.int .i64 0,.int .i64 0,.int .i64 0,.int .i64 0,.int .i64 0,.int .i64 0,.int .i64 0,.int .i64 0,.int .i64 0,.int .i64 0,.int .i64 0,.int .i64 0,.int .i64 0,.int .i64 0,.int .i64 0,.int .i64 0,.int .i64 0,.int .i64 0,.int .i64 0,.int .i64 0,.int .i64 0,.slice none 0 0,.int .i64 0,.int .i64 0,.int .i64 0,.int .i64 0] 34 (0+j)
 rw [h,Array.getElem?_eq_getElem (by simpa using hj)]
 rfl
theorem zdf{fn:Func}{a:Tmp}{t:TypeId}(h:fn.results=#[.cell a t])(tmps:Array Value)(p:Addr)(hp:tmps.getD a undef=.pointer (some p)){P:Program}{w:World}{v:Value}(hl:(loadVar t p).run P w=.ok v w):(results fn tmps).run P w=.ok v w:=by
 have hp2:tmps[a]?.getD undef=.pointer (some p):=by simpa using hp
 simp [results,h,hp2,asAddr,hl]
theorem zkn{fn:Func}{a b c:Tmp}{t:TypeId}(h:fn.results=#[.cell a t,.tmp b,.tmp c])(tmps:Array Value)(p:Addr)(hp:tmps.getD a undef=.pointer (some p)){P:Program}{w:World}{v:Value}(hl:(loadVar t p).run P w=.ok v w):(results fn tmps).run P w=.ok (.tuple #[v,tmps.getD b undef,tmps.getD c undef]) w:=by
 have hp2:tmps[a]?.getD undef=.pointer (some p):=by simpa using hp
 simp [results,h,hp2,asAddr,hl]
theorem Tryz.info34:(Tryz.prog.info? 34).map (·.size)=some 30:=by kernel_rfl
theorem zaF(l:List Value){B b:Nat}{a w:World}(o:Nat)(h:Below B a w)(hb:B≤b):Below B a (w.setCells b o l):=by
 induction l generalizing w o with
 | nil=>exact h
 | cons x r ih=>exact ih (o+1) (h.setCell (p:=⟨b,o,none⟩) hb x)
theorem zbG(l:List Value)(w:World)(b o k:Nat)(h:¬k=b):(w.setCells b o l).heap[k]?=w.heap[k]?:=by
 induction l generalizing w o with
 | nil=>rfl
 | cons x r ih =>
  show((w.setCell ⟨b,o,none⟩ x).setCells b (o+1) r).heap[k]?=_
  rw [ih,Below.heap_setCell _ _ _ _ h]
end
namespace Sp
def i64(x:Int):Prop:=-9223372036854775808≤x∧x≤9223372036854775807
theorem zdL(x:Int):i64 (w64 x):=by unfold i64 w64;omega
theorem zga{x:Int}(h:i64 x):w64 x=x:=by unfold i64 at h;unfold w64;omega
theorem zix(x:Int):(w64 x)%18446744073709551616=x%18446744073709551616:=by unfold w64;omega
theorem zlN{x y:Int}(h:x%18446744073709551616=y%18446744073709551616):w64 x=w64 y:=by unfold w64;omega
structure Rg where
 lo:Int
 hi:Int
def Rg.In(r:Rg)(x:Int):Prop:=r.lo≤x∧x≤r.hi
def Rg.Ok(r:Rg):Prop:=i64 r.lo∧i64 r.hi∧r.lo≤r.hi
def only(n:Int):Rg:=⟨n,n⟩
def anyR:Rg:=⟨-9223372036854775808,9223372036854775807⟩
theorem zg7(n:Int):(only n).In n:=⟨Int.le_refl _,Int.le_refl _⟩
theorem ziy{n:Int}(h:i64 n):(only n).Ok:=⟨h,h,Int.le_refl _⟩
theorem ztj{x:Int}(h:i64 x):anyR.In x:=h
theorem ztk:anyR.Ok:=by unfold Rg.Ok anyR i64;dsimp only;omega
def Rg.within(r o:Rg):Bool:=decide (o.lo≤r.lo)&&decide (r.hi≤o.hi)
def Rg.or(r o:Rg):Rg:=⟨min r.lo o.lo,max r.hi o.hi⟩
theorem zky{r:Rg}{x:Int}(h:r.In x)(o:Rg):(r.or o).In x:=by unfold Rg.In Rg.or at *;dsimp only;omega
theorem zh1{o:Rg}{x:Int}(h:o.In x)(r:Rg):(r.or o).In x:=by unfold Rg.In Rg.or at *;dsimp only;omega
theorem zwc{r o:Rg}(h:r.Ok)(h':o.Ok):(r.or o).Ok:=by unfold Rg.Ok Rg.or i64 at *;dsimp only;omega
def Rg.width(r:Rg):Int:=(r.hi-r.lo)%18446744073709551616
theorem zpk{r:Rg}(h:r.Ok):r.width=r.hi-r.lo:=by unfold Rg.Ok i64 at h;unfold Rg.width;omega
def zf4(low:Int)(one other:Rg):Rg :=
 if 18446744073709551616≤one.width+other.width∨w64 (low+(one.width+other.width))<low then anyR else⟨low,w64 (low+(one.width+other.width))⟩
theorem ztl{low d:Int}{one other:Rg}(h1:one.Ok)(h2:other.Ok)(hl:i64 low)(h0:0≤d)(hd:d≤(one.hi-one.lo)+(other.hi-other.lo)){x:Int}(hx:x%18446744073709551616=(low+d)%18446744073709551616):(zf4 low one other).In (w64 x):=by
 unfold zf4
 rw [zpk h1,zpk h2]
 split
 ·exact ztj (zdL x)
 ·rename_i h
  have hh:=zdL (low+(one.hi-one.lo+(other.hi-other.lo)))
  have hm:=zix (low+(one.hi-one.lo+(other.hi-other.lo)))
  unfold i64 at hl hh
  unfold Rg.In
  dsimp only
  generalize w64 (low+(one.hi-one.lo+(other.hi-other.lo)))=hi at h hh hm ⊢
  generalize one.hi-one.lo+(other.hi-other.lo)=W at *
  have e:hi=low+W:=by omega
  have e2:w64 x=low+d:=by rw [zlN hx];exact zga (by unfold i64;omega)
  omega
theorem ztm{low:Int}{one other:Rg}(hl:i64 low):(zf4 low one other).Ok:=by
 unfold zf4
 split
 ·exact ztk
 ·rename_i h
  exact⟨hl,zdL _,by dsimp only;omega⟩
def Rg.plus(r o:Rg):Rg:=zf4 (w64 (r.lo+o.lo)) r o
def Rg.minus(r o:Rg):Rg:=zf4 (w64 (r.lo-o.hi)) r o
theorem ztn{r o:Rg}{x y:Int}(hr:r.Ok)(ho:o.Ok)(hx:r.In x)(hy:o.In y):(r.plus o).In (w64 (x+y)):=by
 unfold Rg.In at hx hy
 refine ztl (d:=(x-r.lo)+(y-o.lo)) hr ho (zdL _) (by omega) (by omega) ?_
 have:=zix (r.lo+o.lo)
 omega
theorem zwd{r o:Rg}{x y:Int}(hr:r.Ok)(ho:o.Ok)(hx:r.In x)(hy:o.In y):(r.minus o).In (w64 (x-y)):=by
 unfold Rg.In at hx hy
 refine ztl (d:=(x-r.lo)+(o.hi-y)) hr ho (zdL _) (by omega) (by omega) ?_
 have:=zix (r.lo-o.hi)
 omega
theorem zto(r o:Rg):(r.plus o).Ok:=ztm (zdL _)
theorem zwe(r o:Rg):(r.minus o).Ok:=ztm (zdL _)
def zbz(a b:Int):Bool:=if a=-1 then decide (b=-9223372036854775808) else decide (¬a=0)&&decide (¬(w64 (a*b)).tdiv a=b)
theorem zcq{a b:Int}(ha:i64 a)(hb:i64 b)(h:zbz a b=false):i64 (a*b):=by
 unfold zbz at h
 split at h
 ·rename_i e
  subst e
  simp at h
  unfold i64 at *
  omega
 ·rename_i e
  simp only [Bool.and_eq_false_iff,decide_eq_false_iff_not,Decidable.not_not] at h
  rcases h with h|h
  ·subst h;simp [i64]
  ·have hm:=zix (a*b)
   have hw:=zdL (a*b)
   have hd:=Int.mul_tdiv_add_tmod (w64 (a*b)) a
   rw [h] at hd
   by_cases h0:a=0
   ·subst h0;simp [i64]
   ·have hlt:(Int.tmod (w64 (a*b)) a).natAbs<a.natAbs:=by
     rw [Int.natAbs_tmod];exact Nat.mod_lt _ (by omega)
    generalize Int.tmod (w64 (a*b)) a=t at hd hlt
    generalize a*b=p at *
    have:t=0:=by unfold i64 at *;omega
    have e2:w64 p=p:=by omega
    rw [←e2];exact hw
def Rg.times(r o:Rg):Rg :=
 if r.lo=r.hi∧o.lo=o.hi then only (w64 (r.lo*o.lo))
 else if zbz r.lo o.lo=true∨zbz r.lo o.hi=true∨zbz r.hi o.lo=true∨zbz r.hi o.hi=true then anyR
 else⟨min (min (min (r.lo*o.lo) (r.lo*o.hi)) (r.hi*o.lo)) (r.hi*o.hi),max (max (max (r.lo*o.lo) (r.lo*o.hi)) (r.hi*o.lo)) (r.hi*o.hi)⟩
theorem zf5{a b x c:Int}(h1:a≤x)(h2:x≤b):min (a*c) (b*c)≤x*c∧x*c≤max (a*c) (b*c):=by
 rcases Int.le_total 0 c with h|h
 ·have:=Int.mul_le_mul_of_nonneg_right h1 h
  have:=Int.mul_le_mul_of_nonneg_right h2 h
  omega
 ·have:=Int.mul_le_mul_of_nonpos_right h1 h
  have:=Int.mul_le_mul_of_nonpos_right h2 h
  omega
theorem zwf{r o:Rg}{x y:Int}(hr:r.Ok)(ho:o.Ok)(hx:r.In x)(hy:o.In y):(r.times o).In (w64 (x*y)):=by
 unfold Rg.times
 split
 ·rename_i h
  unfold Rg.In at hx hy
  have e1:x=r.lo:=by omega
  have e2:y=o.lo:=by omega
  rw [e1,e2];exact zg7 _
 ·split
  ·exact ztj (zdL _)
  ·rename_i h
   simp only [not_or,Bool.not_eq_true] at h
   obtain⟨w1,w2,w3,w4⟩:=h
   have i1:=zcq hr.1 ho.1 w1
   have i2:=zcq hr.1 ho.2.1 w2
   have i3:=zcq hr.2.1 ho.1 w3
   have i4:=zcq hr.2.1 ho.2.1 w4
   obtain⟨a1,a2⟩:=zf5 (c:=y) hx.1 hx.2
   have b1:=zf5 (c:=r.lo) hy.1 hy.2
   have b2:=zf5 (c:=r.hi) hy.1 hy.2
   rw [Int.mul_comm o.lo,Int.mul_comm o.hi,Int.mul_comm y] at b1 b2
   unfold i64 at i1 i2 i3 i4
   generalize r.lo*o.lo=p1 at *
   generalize r.lo*o.hi=p2 at *
   generalize r.hi*o.lo=p3 at *
   generalize r.hi*o.hi=p4 at *
   generalize r.lo*y=q1 at *
   generalize r.hi*y=q2 at *
   rw [zga (by unfold i64;omega)]
   unfold Rg.In
   dsimp only
   omega
theorem zwg{r o:Rg}(hr:r.Ok)(ho:o.Ok):(r.times o).Ok:=by
 unfold Rg.times
 split
 ·exact ziy (zdL _)
 ·split
  ·exact ztk
  ·rename_i h
   simp only [not_or,Bool.not_eq_true] at h
   obtain⟨w1,w2,w3,w4⟩:=h
   have i1:=zcq hr.1 ho.1 w1
   have i2:=zcq hr.1 ho.2.1 w2
   have i3:=zcq hr.2.1 ho.1 w3
   have i4:=zcq hr.2.1 ho.2.1 w4
   unfold Rg.Ok i64 at *
   dsimp only
   generalize r.lo*o.lo=p1 at *
   generalize r.lo*o.hi=p2 at *
   generalize r.hi*o.lo=p3 at *
   generalize r.hi*o.hi=p4 at *
   omega
def ze6(l r:Rg):Option (Rg × Rg):=if r.hi≤l.lo then none else some (⟨l.lo,min l.hi (r.hi-1)⟩,⟨max (l.lo+1) r.lo,r.hi⟩)
def zbk(l r:Rg):Option (Rg × Rg):=if l.hi<r.lo then none else some (⟨max l.lo r.lo,l.hi⟩,⟨r.lo,min l.hi r.hi⟩)
def ze7(l r:Rg):Option (Rg × Rg):=if max l.lo r.lo≤min l.hi r.hi then some (⟨max l.lo r.lo,min l.hi r.hi⟩,⟨max l.lo r.lo,min l.hi r.hi⟩) else none
def Rg.without(r o:Rg):Rg:=if o.lo=o.hi then(if o.lo=r.lo then⟨r.lo+1,r.hi⟩ else if o.lo=r.hi then⟨r.lo,r.hi-1⟩ else r) else r
def za8(l r:Rg):Option (Rg × Rg):=if(l.lo=r.lo∧l.hi=r.hi)∧l.lo=l.hi then none else some (l.without r,r.without l)
theorem zyf{l r:Rg}{x y:Int}(hx:l.In x)(hy:r.In y)(h:x<y):∃ a b,ze6 l r=some (a,b)∧a.In x∧b.In y:=by
 unfold Rg.In at *
 unfold ze6
 rw [if_neg (by omega)]
 exact⟨_,_,rfl,by dsimp only;omega,by dsimp only;omega⟩
theorem zq8{l r:Rg}{x y:Int}(hx:l.In x)(hy:r.In y)(h:¬x<y):∃ a b,zbk l r=some (a,b)∧a.In x∧b.In y:=by
 unfold Rg.In at *
 unfold zbk
 rw [if_neg (by omega)]
 exact⟨_,_,rfl,by dsimp only;omega,by dsimp only;omega⟩
theorem zyg{l r:Rg}{x y:Int}(hx:l.In x)(hy:r.In y)(h:x=y):∃ a b,ze7 l r=some (a,b)∧a.In x∧b.In y:=by
 unfold Rg.In at *
 unfold ze7
 rw [if_pos (by omega)]
 exact⟨_,_,rfl,by dsimp only;omega,by dsimp only;omega⟩
theorem zjM{r o:Rg}{x y:Int}(hx:r.In x)(hy:o.In y)(h:¬x=y):(r.without o).In x:=by
 unfold Rg.In at *
 unfold Rg.without
 repeat' split
 all_goals(try dsimp only)
 all_goals omega
theorem zq9{l r:Rg}{x y:Int}(hx:l.In x)(hy:r.In y)(h:¬x=y):∃ a b,za8 l r=some (a,b)∧a.In x∧b.In y:=by
 have h1:=zjM hx hy h
 have h2:=zjM hy hx (fun e=>h e.symm)
 unfold za8
 rw [if_neg (by unfold Rg.In at hx hy;omega)]
 exact⟨_,_,rfl,h1,h2⟩
theorem zyh{l r a b:Rg}(hl:l.Ok)(hr:r.Ok)(h:ze6 l r=some (a,b)):a.Ok∧b.Ok:=by
 unfold ze6 at h
 split at h
 ·cases h
 ·simp only [Option.some.injEq,Prod.mk.injEq] at h
  obtain⟨rfl,rfl⟩:=h
  unfold Rg.Ok i64 at *;dsimp only;omega
theorem zqA{l r a b:Rg}(hl:l.Ok)(hr:r.Ok)(h:zbk l r=some (a,b)):a.Ok∧b.Ok:=by
 unfold zbk at h
 split at h
 ·cases h
 ·simp only [Option.some.injEq,Prod.mk.injEq] at h
  obtain⟨rfl,rfl⟩:=h
  unfold Rg.Ok i64 at *;dsimp only;omega
theorem zyi{l r a b:Rg}(hl:l.Ok)(hr:r.Ok)(h:ze7 l r=some (a,b)):a.Ok∧b.Ok:=by
 unfold ze7 at h
 split at h
 ·simp only [Option.some.injEq,Prod.mk.injEq] at h
  obtain⟨rfl,rfl⟩:=h
  unfold Rg.Ok i64 at *;dsimp only;omega
 ·cases h
theorem zqB{l r a b:Rg}(hl:l.Ok)(hr:r.Ok)(h:za8 l r=some (a,b)):a.Ok∧b.Ok:=by
 unfold za8 at h
 split at h
 ·cases h
 ·rename_i hn
  simp only [Option.some.injEq,Prod.mk.injEq] at h
  obtain⟨rfl,rfl⟩:=h
  unfold Rg.Ok i64 at *
  unfold Rg.without
  refine⟨?_,?_⟩
  all_goals
   repeat' split
   all_goals(try dsimp only)
   all_goals omega
end Sp
end Go.Proofs.YtfpgjkbjbbgciaaGreatDoor
