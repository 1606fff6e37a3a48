import Derived.Test.YtfpgjkbjbbgciaaGreatDoorMi11
import Derived.Test.YtfpgjkbjbbgciaaGreatDoorMi15
set_option maxRecDepth 100000
set_option maxHeartbeats 8000000
namespace Go.Proofs.YtfpgjkbjbbgciaaGreatDoor
section
open Go.RowKit Sp
def zd7(w:World)(_l _r:Rg)(q:Option (Rg × Rg)):Ending→World→Prop:=fun e w'=>Below w.heap.size w w'∧match q with
 | none=>∃ a b,e=.returned (.tuple #[rv a,rv b,.bool false])
 | some (a,b)=>e=.returned (.tuple #[rv a,rv b,.bool true])
theorem znB{fn:Func}{a b c:Tmp}{t:TypeId}(h:fn.results=#[.cell a t,.cell b t,.tmp c])(tmps:Array Value)(p q:Addr)(hp:tmps.getD a undef=.pointer (some p))(hq:tmps.getD b undef=.pointer (some q)){P:Program}{w:World}{u v:Value}(hl:(loadVar t p).run P w=.ok u w)(hm:(loadVar t q).run P w=.ok v w):(results fn tmps).run P w=.ok (.tuple #[u,v,tmps.getD c undef]) w:=by
 have hp2:tmps[a]?.getD undef=.pointer (some p):=by simpa using hp
 have hq2:tmps[b]?.getD undef=.pointer (some q):=by simpa using hq
 simp [results,h,hp2,hq2,asAddr,hl,hm]
theorem zd8{fn:Func}{a b c:Tmp}{Q:Ending→World→Prop}{X:World}{act:Act}{p q:Nat}{l r:Rg}{x:Bool}(hr:fn.results=#[.cell a 213,.cell b 213,.tmp c])(hp:act.tmps.getD a undef=.pointer (some ⟨p,0,none⟩))(hq:act.tmps.getD b undef=.pointer (some ⟨q,0,none⟩))(hc:act.tmps.getD c undef=.bool x)(hd:act.defers=[])
  (h0:X.cell? ⟨p,0,none⟩=some (.int .i64 l.lo)) (h1:X.cell? ⟨p,1,none⟩=some (.int .i64 l.hi)) (h2:X.cell? ⟨q,0,none⟩=some (.int .i64 r.lo)) (h3:X.cell? ⟨q,1,none⟩=some (.int .i64 r.hi)) (hQ:Q (.returned (.tuple #[rv l,rv r,.bool x])) X):bodyPost Tryz.prog fn Q .ret act X:=by
 have h:=znB hr act.tmps ⟨p,0,none⟩ ⟨q,0,none⟩ hp hq (zn9 h0 h1) (zn9 h2 h3)
 rw [hc] at h
 exact bodyPost_ret h hd hQ
theorem zaz(w:World)(a b c:Obj)(cs:Array Value)(t:TypeId)(j:Nat):((((w.alloc a).alloc b).alloc c).alloc (.cells cs t)).cell? ⟨w.heap.size+1+1+1,j,none⟩=cs[j]?:=by
 have h:=World.cell?_alloc_new (w:=((w.alloc a).alloc b).alloc c) cs t j
 rw [show(((w.alloc a).alloc b).alloc c).heap.size=w.heap.size+1+1+1 by simp] at h
 exact h
theorem za6(w:World)(a b d:Obj)(cs:Array Value)(t:TypeId)(j:Nat):((((w.alloc a).alloc b).alloc (.cells cs t)).alloc d).cell? ⟨w.heap.size+1+1,j,none⟩=cs[j]?:=by
 rw [←za2 w a b cs t j]
 exact World.cell?_of_block (w:=((w.alloc a).alloc b).alloc (.cells cs t)) (((Below.refl (((w.alloc a).alloc b).alloc (.cells cs t)).heap.size (((w.alloc a).alloc b).alloc (.cells cs t))).alloc (Nat.le_refl _) d).block (w.heap.size+1+1) (by simp))
theorem zgc(w:World)(a b c d:Obj)(x y:Int):(((((w.alloc a).alloc b).alloc c).alloc d).alloc (.cells #[.int .i64 x,.int .i64 y] 213)).cell? ⟨w.heap.size+1+1+1+1,0,none⟩=some (.int .i64 x)∧(((((w.alloc a).alloc b).alloc c).alloc d).alloc (.cells #[.int .i64 x,.int .i64 y] 213)).cell? ⟨w.heap.size+1+1+1+1,1,none⟩=some (.int .i64 y):=by
 have h:=fun j=>World.cell?_alloc_new (w:=(((w.alloc a).alloc b).alloc c).alloc d) #[.int .i64 x,.int .i64 y] 213 j
 rw [show((((w.alloc a).alloc b).alloc c).alloc d).heap.size=w.heap.size+1+1+1+1 by simp] at h
 exact⟨h 0,h 1⟩
theorem zb1{w:World}{a b c d:Obj}:Below w.heap.size w ((((w.alloc a).alloc b).alloc c).alloc d):=zaA.alloc (by simp;omega) _
theorem ze8(w:World)(l r:Rg)(c d:Obj):
  ((((w.alloc (.cells #[.int .i64 l.lo,.int .i64 l.hi] 213)).alloc (.cells #[.int .i64 r.lo,.int .i64 r.hi] 213)).alloc c).alloc d).cell? ⟨w.heap.size,0,none⟩=some (.int .i64 l.lo)∧((((w.alloc (.cells #[.int .i64 l.lo,.int .i64 l.hi] 213)).alloc (.cells #[.int .i64 r.lo,.int .i64 r.hi] 213)).alloc c).alloc d).cell? ⟨w.heap.size,1,none⟩=some (.int .i64 l.hi) ∧
  ((((w.alloc (.cells #[.int .i64 l.lo,.int .i64 l.hi] 213)).alloc (.cells #[.int .i64 r.lo,.int .i64 r.hi] 213)).alloc c).alloc d).cell? ⟨w.heap.size+1,0,none⟩=some (.int .i64 r.lo)∧((((w.alloc (.cells #[.int .i64 l.lo,.int .i64 l.hi] 213)).alloc (.cells #[.int .i64 r.lo,.int .i64 r.hi] 213)).alloc c).alloc d).cell? ⟨w.heap.size+1,1,none⟩=some (.int .i64 r.hi) :=
 zbJ box1 ⟨zba _ _ _ _ _ 0,zba _ _ _ _ _ 1,zcy _ _ _ _ _ 0,zcy _ _ _ _ _ 1⟩
theorem zwj(l r:Rg)(w:World)(hl:l.Ok)(hr:r.Ok):Calls Tryz.prog 271 #[rv l,rv r] w (zd7 w l r (ze6 l r)):=by
 unfold Rg.Ok i64 at hl hr
 by_cases h:r.hi≤l.lo
 ·have e0:ze6 l r=none:=by unfold ze6;rw [if_pos h]
  rw [e0]
  go_enter Tryz.func271,Tryz.ntmps271
  go_wp2
  go_region
  all_goals go_wp2
  all_goals exact zd8 Tryz.results271 rfl rfl rfl rfl (za6 _ _ _ _ _ _ 0) (za6 _ _ _ _ _ _ 1) (zaz _ _ _ _ _ _ 0) (zaz _ _ _ _ _ _ 1) ⟨zb1.drew,_,_,rfl⟩
 ·have e0:ze6 l r=some (⟨l.lo,min l.hi (r.hi-1)⟩,⟨max (l.lo+1) r.lo,r.hi⟩):=by unfold ze6;rw [if_neg h]
  rw [e0]
  have hb1:=zca l.lo (min l.hi (r.hi-1))
  have hb2:=zca (max (l.lo+1) r.lo) r.hi
  have b1:l.lo+1≤9223372036854775807:=by omega
  have b0:-9223372036854775808≤l.lo+1:=by omega
  have b2:r.hi-1≤9223372036854775807:=by omega
  have b3:-9223372036854775808≤r.hi-1:=by omega
  have w1:IntKind.i64.wrap (r.hi-1)=r.hi-1:=by rw [zh4];exact zga ⟨b3,b2⟩
  have w2:IntKind.i64.wrap (l.lo+1)=l.lo+1:=by rw [zh4];exact zga ⟨b0,b1⟩
  have H1:=ze8 w l r (.cells #[.int .i64 0,.int .i64 0] 213) (.cells #[.int .i64 0,.int .i64 0] 213)
  go_enter Tryz.func271,Tryz.ntmps271
  go_wp2
  go_region_held3 (fun W=>W.cell? ⟨w.heap.size,0,none⟩=some (.int .i64 l.lo)∧W.cell? ⟨w.heap.size,1,none⟩=some (.int .i64 l.hi)∧W.cell? ⟨w.heap.size+1,0,none⟩=some (.int .i64 r.lo)∧W.cell? ⟨w.heap.size+1,1,none⟩=some (.int .i64 r.hi))
   (first|exact H1|go_keep)
   (fail)
  all_goals go_wp2
  all_goals exact zd8 (l:=⟨l.lo,min l.hi (r.hi-1)⟩) (r:=⟨max (l.lo+1) r.lo,r.hi⟩) Tryz.results271 rfl rfl rfl rfl (za6 _ _ _ _ _ _ 0) (za6 _ _ _ _ _ _ 1) (zaz _ _ _ _ _ _ 0) (zaz _ _ _ _ _ _ 1) ⟨zb1.drew,rfl⟩
theorem znC(l r:Rg)(w:World):Calls Tryz.prog 272 #[rv l,rv r] w (zd7 w l r (zbk l r)):=by
 by_cases h:l.hi<r.lo
 ·have e0:zbk l r=none:=by unfold zbk;rw [if_pos h]
  rw [e0]
  go_enter Tryz.func272,Tryz.ntmps272
  go_wp2
  go_region
  all_goals go_wp2
  all_goals exact zd8 Tryz.results272 rfl rfl rfl rfl (za6 _ _ _ _ _ _ 0) (za6 _ _ _ _ _ _ 1) (zaz _ _ _ _ _ _ 0) (zaz _ _ _ _ _ _ 1) ⟨zb1.drew,_,_,rfl⟩
 ·have e0:zbk l r=some (⟨max l.lo r.lo,l.hi⟩,⟨r.lo,min l.hi r.hi⟩):=by unfold zbk;rw [if_neg h]
  rw [e0]
  have hb1:=zca (max l.lo r.lo) l.hi
  have hb2:=zca r.lo (min l.hi r.hi)
  have H1:=ze8 w l r (.cells #[.int .i64 0,.int .i64 0] 213) (.cells #[.int .i64 0,.int .i64 0] 213)
  go_enter Tryz.func272,Tryz.ntmps272
  go_wp2
  go_region_held3 (fun W=>W.cell? ⟨w.heap.size,0,none⟩=some (.int .i64 l.lo)∧W.cell? ⟨w.heap.size,1,none⟩=some (.int .i64 l.hi)∧W.cell? ⟨w.heap.size+1,0,none⟩=some (.int .i64 r.lo)∧W.cell? ⟨w.heap.size+1,1,none⟩=some (.int .i64 r.hi))
   (first|exact H1|go_keep)
   (fail)
  all_goals go_wp2
  all_goals exact zd8 (l:=⟨max l.lo r.lo,l.hi⟩) (r:=⟨r.lo,min l.hi r.hi⟩) Tryz.results272 rfl rfl rfl rfl (za6 _ _ _ _ _ _ 0) (za6 _ _ _ _ _ _ 1) (zaz _ _ _ _ _ _ 0) (zaz _ _ _ _ _ _ 1) ⟨zb1.drew,rfl⟩
theorem znn(sort line:Int)(word:ByteArray)(a b c n:Int)(nm:ByteArray)(w:World):
  Calls Tryz.prog 104 #[stm sort line word a b c n nm] w fun e w'=>e=.returned (.bool (zbt word))∧Below w.heap.size w w':=by
 cases h:(word.toList == [99,97,108,108]) with
 | true =>
  have e:zbt word=true:=h
  rw [e]
  have hw:=zaC word _ h
  subst hw
  clear h e
  go_enter Tryz.func104,Tryz.ntmps104
  go_wp2
  go_ret
  exact⟨rfl,(Below.refl _ _).alloc (Nat.le_refl _) _⟩
 | false =>
  have e:zbt word=false:=h
  rw [e]
  clear e
  go_enter Tryz.func104,Tryz.ntmps104
  go_wp2
  go_ret
  exact⟨rfl,(Below.refl _ _).alloc (Nat.le_refl _) _⟩
theorem zlt(sort line:Int)(word:ByteArray)(a b c n:Int)(nm:ByteArray)(w:World):
  Calls Tryz.prog 102 #[stm sort line word a b c n nm] w fun e w'=>e=.returned (.bool (zaE word))∧Below w.heap.size w w':=by
 have e:zaE word=(word.toList == [106,117,109,112]||word.toList == [108,101,115,115]||word.toList == [115,97,109,101]):=rfl
 rw [e]
 clear e
 cases h1:(word.toList == [106,117,109,112]) with
 | true =>
  have hw:=zaC word _ h1
  subst hw
  clear h1
  go_enter Tryz.func102,Tryz.ntmps102
  go_wp2
  go_ret
  exact⟨rfl,(Below.refl _ _).alloc (Nat.le_refl _) _⟩
 | false =>
  cases h2:(word.toList == [108,101,115,115]) with
  | true =>
   have hw:=zaC word _ h2
   subst hw
   clear h1 h2
   go_enter Tryz.func102,Tryz.ntmps102
   go_wp2
   go_ret
   exact⟨rfl,(Below.refl _ _).alloc (Nat.le_refl _) _⟩
  | false =>
   cases h3:(word.toList == [115,97,109,101]) with
   | true =>
    have hw:=zaC word _ h3
    subst hw
    clear h1 h2 h3
    go_enter Tryz.func102,Tryz.ntmps102
    go_wp2
    go_ret
    exact⟨rfl,(Below.refl _ _).alloc (Nat.le_refl _) _⟩
   | false =>
    go_enter Tryz.func102,Tryz.ntmps102
    go_wp2
    go_ret
    exact⟨rfl,(Below.refl _ _).alloc (Nat.le_refl _) _⟩
theorem zqe(sort line:Int)(word:ByteArray)(a b c n:Int)(nm:ByteArray)(w:World):
  Calls Tryz.prog 132 #[stm sort line word a b c n nm] w fun e w'=>e=.returned (.bool (ends word))∧Below w.heap.size w w':=by
 have e:ends word=(word.toList == [106,117,109,112]||word.toList == [98,97,99,107]||word.toList == [115,116,111,112]):=rfl
 rw [e]
 clear e
 cases h1:(word.toList == [106,117,109,112]) with
 | true =>
  have hw:=zaC word _ h1
  subst hw
  clear h1
  go_enter Tryz.func132,Tryz.ntmps132
  go_wp2
  go_ret
  exact⟨rfl,(Below.refl _ _).alloc (Nat.le_refl _) _⟩
 | false =>
  cases h2:(word.toList == [98,97,99,107]) with
  | true =>
   have hw:=zaC word _ h2
   subst hw
   clear h1 h2
   go_enter Tryz.func132,Tryz.ntmps132
   go_wp2
   go_ret
   exact⟨rfl,(Below.refl _ _).alloc (Nat.le_refl _) _⟩
  | false =>
   cases h3:(word.toList == [115,116,111,112]) with
   | true =>
    have hw:=zaC word _ h3
    subst hw
    clear h1 h2 h3
    go_enter Tryz.func132,Tryz.ntmps132
    go_wp2
    go_ret
    exact⟨rfl,(Below.refl _ _).alloc (Nat.le_refl _) _⟩
   | false =>
    go_enter Tryz.func132,Tryz.ntmps132
    go_wp2
    go_ret
    exact⟨rfl,(Below.refl _ _).alloc (Nat.le_refl _) _⟩
theorem zno(l:List It)(k:Nat)(h:k<l.length)(j:Nat)(hj:j<8):(zav l)[k*8+j]?=l[k].cells[j]?:=by
 induction l generalizing k with
 | nil=>simp at h
 | cons i l ih =>
  have e:zav (i :: l)=i.cells++zav l:=by simp [zav]
  rw [e]
  cases k with
  | zero =>
   rw [List.getElem?_append_left (by simp;omega)]
   simp
  | succ k =>
   rw [List.getElem?_append_right (by simp;omega)]
   have:=ih k (by simpa using h)
   simp only [List.getElem_cons_succ]
   rw [←this]
   congr 1
   simp;omega
theorem zg2{w:World}{B:Nat}{v:Value}{its:List It}(h:w.ownsRow B 135 8 v its.length (zav its))(hp:0<its.length):
  ∃ g cap,v=.slice (some ⟨g,0,none⟩) its.length cap∧B≤g∧g<w.heap.size∧∀ k (hk:k<its.length),
   w.cell? ⟨g,k*8,none⟩=some (.int .i64 its[k].sort)∧w.cell? ⟨g,k*8+1,none⟩=some (.int .i64 its[k].line)∧w.cell? ⟨g,k*8+2,none⟩=some (.string its[k].word) ∧
   w.cell? ⟨g,k*8+3,none⟩=some (.int .i64 its[k].a)∧w.cell? ⟨g,k*8+4,none⟩=some (.int .i64 its[k].b)∧w.cell? ⟨g,k*8+5,none⟩=some (.int .i64 its[k].c) ∧
   w.cell? ⟨g,k*8+6,none⟩=some (.int .i64 its[k].n)∧w.cell? ⟨g,k*8+7,none⟩=some (.string its[k].nm):=by
 obtain⟨g,cap,rfl,hb,hlt⟩:=h.form hp
 refine⟨g,cap,rfl,hb,hlt,fun k hk=>?_⟩
 have H:∀ j,j<8→w.cell? ⟨g,k*8+j,none⟩=its[k].cells[j]?:=fun j hj=>by
  rw [World.ownsRow.cellAt h (k*8+j) (by omega),zno its k hk j hj]
 exact⟨H 0 (by omega),H 1 (by omega),H 2 (by omega),H 3 (by omega),H 4 (by omega),H 5 (by omega),H 6 (by omega),H 7 (by omega)⟩
theorem znp(w:World)(B:Nat)(v:Value)(h:w.ownsRow B 135 8 v 0 (zav [])):
  Calls Tryz.prog 67 #[v] w fun e w'=>e=zak 2 0∧w'=w:=by
 have hv:∃ ao cap,v=.slice ao 0 cap:=by
  rcases h.2 with ⟨hv,_⟩|⟨g,cap,cur,hv,_⟩
  ·exact⟨none,0,hv⟩
  ·exact⟨_,cap,hv⟩
 obtain⟨ao,cap,rfl⟩:=hv
 go_enter Tryz.func67,Tryz.ntmps67
 go_wp2_with(go_at_call 79;refine(zay _ _ _).mono ?_;rintro e wx ⟨rfl,hww⟩;subst hww)
 exact⟨rfl,rfl,rfl⟩
theorem zqf(w:World)(B:Nat)(v:Value)(i:It)(r:List It)(h:w.ownsRow B 135 8 v (i :: r).length (zav (i :: r)))(hn:r.length≤4096)(hs:¬i.sort=0):
  Calls Tryz.prog 67 #[v] w fun e w'=>e=zak 2 i.line∧w'=w:=by
 obtain⟨g,cap,rfl,_,_,hc⟩:=zg2 h (by simp)
 obtain⟨h0,h1,_⟩:=hc 0 (by simp)
 simp only [List.getElem_cons_zero,Nat.zero_mul,Nat.zero_add] at h0 h1
 have hlen:(i :: r).length=r.length+1:=by simp
 rw [hlen]
 have hs':(i.sort == 0)=false:=by simpa using hs
 clear hc hlen h
 go_enter Tryz.func67,Tryz.ntmps67
 go_wp2_with(go_at_call 79;refine(zay _ _ _).mono ?_;rintro e wx ⟨rfl,hww⟩;subst hww)
 all_goals exact⟨rfl,rfl,rfl⟩
theorem znq(w:World)(B:Nat)(v:Value)(i:It)(r:List It)(h:w.ownsRow B 135 8 v (i :: r).length (zav (i :: r)))(hn:r.length≤4096)(hs:i.sort=0):
  Calls Tryz.prog 67 #[v] w fun e w'=>e=.returned (.tuple #[])∧w'=w:=by
 obtain⟨g,cap,rfl,_,_,hc⟩:=zg2 h (by simp)
 obtain⟨h0,h1,_⟩:=hc 0 (by simp)
 simp only [List.getElem_cons_zero,Nat.zero_mul,Nat.zero_add] at h0 h1
 have hlen:(i :: r).length=r.length+1:=by simp
 rw [hlen]
 rw [hs] at h0
 clear hc hlen h
 go_enter Tryz.func67,Tryz.ntmps67
 go_wp2
 go_end0
 exact⟨rfl,rfl⟩
theorem zv0{w:World}{B g c:Nat}{I:List Int}{x:Int}(h:w.ownsRow B 3 1 (.slice (some ⟨g,0,none⟩) (I.length+1) c) (I.length+1) (i64s (I++[x]))):w.ownsRow B 3 1 (.slice (some ⟨g,0,none⟩) I.length c) I.length (i64s I):=by
 refine⟨by simp,?_⟩
 rcases h.2 with ⟨h',_⟩|⟨g',c',cur,h',hb,hh,hn,hm,hs,ht⟩
 ·simp at h'
 ·simp only [Value.slice.injEq,Option.some.injEq,Addr.mk.injEq,true_and,and_true] at h'
  obtain⟨rfl,rfl⟩:=h'
  refine .inr ⟨g,c,cur,rfl,hb,hh,by omega,hm,hs,?_⟩
  have:=congrArg (List.take I.length) ht
  rw [List.take_take] at this
  simpa using this
def SlB(w:World)(b:Nat)(v:Value)(l:List Int):Prop:=∃ ao cap,v=.slice ao l.length cap∧l.length≤cap∧(0<l.length→∃ g o,ao=some ⟨g,o,none⟩∧g<b∧g<w.heap.size∧∀ j (h:j<l.length),w.cell? ⟨g,o+j,none⟩=some (.int .i64 l[j]))
theorem SlB.below{w w':World}{b:Nat}{v:Value}{l:List Int}(h:SlB w b v l)(hb:Below b w w'):SlB w' b v l:=by
 obtain⟨ao,cap,h1,h2,h3⟩:=h
 refine⟨ao,cap,h1,h2,fun hp=>?_⟩
 obtain⟨g,o,e,hg,hg2,hc⟩:=h3 hp
 exact⟨g,o,e,hg,Nat.lt_of_lt_of_le hg2 hb.size,fun j hj=>(hb.cell (p:=⟨g,o+j,none⟩) hg).trans (hc j hj)⟩
end
namespace Sp
theorem zdA{x:List UInt8}(h:(!x.isEmpty&&x.all fun c=>decide (33≤c.toNat∧c.toNat<127∧¬c.toNat=59))=true):Wd x:=by
 rw [Bool.and_eq_true] at h
 refine⟨fun e=>?_,fun c hc=>of_decide_eq_true (List.all_eq_true.1 h.2 c hc)⟩
 rw [e] at h
 exact absurd h.1 (by decide)
theorem zur(n:Int):Wd (digL n):=⟨zyA n,fun c hc=>by
 rcases zr2 n c hc with e|e
 ·rw [e];decide
 ·omega⟩
def regW(r:Nat):List UInt8:=[114,UInt8.ofNat (48+r)]
theorem zfk(r:Nat)(h:r<8):Wd (regW r):=⟨by simp [regW],fun c hc=>by
 rcases List.mem_cons.1 hc with e|e
 ·rw [e];decide
 ·rw [List.mem_singleton.1 e]
  have:(UInt8.ofNat (48+r)).toNat=48+r:=by simp;omega
  omega⟩
theorem zeD(r:Nat)(h:r<8):opOk 82 (ba (regW r))=true:=by
 have:reg (ba (regW r))=(r:Int):=zzA r h
 unfold opOk
 rw [if_pos rfl,this];simp
theorem zus(n:Int)(h:-9223372036854775808≤n)(h':n≤9223372036854775807):opOk 75 (ba (digL n))=true:=by
 unfold opOk
 rw [if_neg (by decide),if_pos rfl,zp2 n h h']
theorem blk0:∀ c∈([]:List UInt8),c=32∨c=9:=fun c hc=>by cases hc
end Sp
section
open Go.RowKit Sp
theorem zmm{w:World}{p:Value}(r:Rg)(_hr:r.Ok)(h0:r.lo<0):Calls Tryz.prog 255 #[p,rv r] w fun e w'=>e=zak 8 0∧Below w.heap.size w w':=by
 unfold Rg.Ok i64 at _hr
 have t:decide ((0:Int)≤r.lo)=false:=by simpa using h0
 go_enter Tryz.func255,Tryz.ntmps255
 go_wp2
 exact⟨rfl,rfl,rfl,rfl,zaA⟩
theorem zk8{w:World}{p:Value}(r:Rg)(_hr:r.Ok)(h0:0≤r.lo)(h1:15<r.hi):Calls Tryz.prog 255 #[p,rv r] w fun e w'=>e=zak 8 0∧Below w.heap.size w w':=by
 unfold Rg.Ok i64 at _hr
 have t:decide (r.hi≤(15:Int))=false:=by simpa using h1
 go_enter Tryz.func255,Tryz.ntmps255
 go_wp2
 exact⟨rfl,rfl,rfl,rfl,zaA⟩
theorem zhj{w:World}{p:Value}(r:Rg)(hr:r.Ok)(h:¬(0≤r.lo∧r.hi≤15)):Calls Tryz.prog 255 #[p,rv r] w fun e w'=>e=zak 8 0∧Below w.heap.size w w':=by
 by_cases h0:0≤r.lo
 ·exact zk8 r hr h0 (by omega)
 ·exact zmm r hr (by omega)
def zmi(r:Rg):Nat→Int
 | 0=>r.lo
 | 1=>r.lo
 | _=>r.hi
def zmj(o:Rg):Nat→Int
 | 0=>o.lo
 | 1=>o.hi
 | 2=>o.lo
 | _=>o.hi
structure TimesAt(w wr:World)(r o:Rg)(k:Nat):Prop where
 cells:∀ j,j<4→wr.cell? ⟨w.heap.size+1+1+1,j,none⟩=some (.int .i64 (if j<k then wrap64 (zmi r j*zmj o j) else 0))
 fz:∀ j,wr.frozen? ⟨w.heap.size+1+1+1,j,none⟩=false
 res:∀ j,j<2→wr.cell? ⟨w.heap.size+1+1,j,none⟩=some (.int .i64 0)
 rz:∀ j,wr.frozen? ⟨w.heap.size+1+1,j,none⟩=false
 low:Below w.heap.size w wr
 size:w.heap.size+1+1+1<wr.heap.size
 no:∀ j,j<k→zbz (zmi r j) (zmj o j)=false
theorem TimesAt.alloc{w wr:World}{r o:Rg}{k:Nat}(h:TimesAt w wr r o k)(x:Obj):TimesAt w (wr.alloc x) r o k:=by
 have hb:Below wr.heap.size wr (wr.alloc x):=box1
 have hs:=h.size
 have z:∀ b j,b<wr.heap.size→(wr.alloc x).frozen? ⟨b,j,none⟩=wr.frozen? ⟨b,j,none⟩:=fun b j hlt=>World.frozen?_of_block (w:=wr) (a:=⟨b,j,none⟩) (hb.block b hlt)
 exact⟨fun j hj=>za3 hb (h.cells j hj),fun j=>(z _ j hs).trans (h.fz j),fun j hj=>za3 hb (h.res j hj),fun j=>(z _ j (by omega)).trans (h.rz j),h.low.alloc h.low.size _,by simp;omega,h.no⟩
theorem TimesAt.put{w wr:World}{r o:Rg}{k:Nat}(h:TimesAt w wr r o k)(hk:k<4)(hn:zbz (zmi r k) (zmj o k)=false):TimesAt w (wr.setCell ⟨w.heap.size+1+1+1,k,none⟩ (.int .i64 (wrap64 (zmi r k*zmj o k)))) r o (k+1):=by
 have e:=fun j=>zaq wr (w.heap.size+1+1+1) k j (.int .i64 (wrap64 (zmi r k*zmj o k))) _ (h.cells k hk)
 have bl:(wr.setCell ⟨w.heap.size+1+1+1,k,none⟩ (.int .i64 (wrap64 (zmi r k*zmj o k)))).heap[w.heap.size+1+1]?=wr.heap[w.heap.size+1+1]?:=Below.heap_setCell _ _ _ _ (by show ¬w.heap.size+1+1=w.heap.size+1+1+1;omega)
 refine⟨fun j hj=>?_,fun j=>zcE wr _ _ j _ (h.fz j),fun j hj=>(World.cell?_of_block (w:=wr) (a:=⟨w.heap.size+1+1,j,none⟩) bl).trans (h.res j hj),fun j=>(World.frozen?_of_block (w:=wr) (a:=⟨w.heap.size+1+1,j,none⟩) bl).trans (h.rz j),h.low.setCell (p:=⟨w.heap.size+1+1+1,k,none⟩) (by show w.heap.size≤w.heap.size+1+1+1;omega) _,by simp [World.setCell];exact h.size,fun j hj=>?_⟩
 ·rw [e j]
  by_cases hjk:j=k
  ·subst hjk;rw [if_pos rfl,if_pos (by omega)]
  ·rw [if_neg hjk,h.cells j hj]
   by_cases h1:j<k
   ·rw [if_pos h1,if_pos (by omega)]
   ·rw [if_neg h1,if_neg (by omega)]
 ·by_cases hjk:j=k
  ·subst hjk;exact hn
  ·exact h.no j (by omega)
theorem zbS{r o:Rg}(h:¬(r.lo=r.hi∧o.lo=o.hi)){k:Nat}(hk:k<4)(hw:zbz (zmi r k) (zmj o k)=true):r.times o=anyR:=by
 unfold Rg.times
 rw [if_neg h,if_pos]
 match k,hk with
 | 0,_=>exact .inl hw
 | 1,_=>exact .inr (.inl hw)
 | 2,_=>exact .inr (.inr (.inl hw))
 | 3,_=>exact .inr (.inr (.inr hw))
theorem ziF{r o:Rg}(hr:r.Ok)(ho:o.Ok)(h:¬(r.lo=r.hi∧o.lo=o.hi))(hn:∀ j,j<4→zbz (zmi r j) (zmj o j)=false):
  r.times o=⟨zfA [wrap64 (r.lo*o.lo),wrap64 (r.lo*o.hi),wrap64 (r.hi*o.lo),wrap64 (r.hi*o.hi)] 3,zfB [wrap64 (r.lo*o.lo),wrap64 (r.lo*o.hi),wrap64 (r.hi*o.lo),wrap64 (r.hi*o.hi)] 3⟩:=by
 have h0:zbz r.lo o.lo=false:=hn 0 (by omega)
 have h1:zbz r.lo o.hi=false:=hn 1 (by omega)
 have h2:zbz r.hi o.lo=false:=hn 2 (by omega)
 have h3:zbz r.hi o.hi=false:=hn 3 (by omega)
 unfold Rg.times
 rw [if_neg h,if_neg (by rw [h0,h1,h2,h3];simp)]
 rw [zc2,zc2,zc2,zc2,zga (zcq hr.1 ho.1 h0),zga (zcq hr.1 ho.2.1 h1),zga (zcq hr.2.1 ho.1 h2),zga (zcq hr.2.1 ho.2.1 h3)]
 rfl
theorem ztG(r o:Rg)(w:World)(h1:r.lo=r.hi)(h2:o.lo=o.hi):Calls Tryz.prog 245 #[rv r,rv o] w fun e w'=>e=.returned (rv (r.times o))∧Below w.heap.size w w':=by
 obtain⟨a,b⟩:=r
 obtain⟨c,d⟩:=o
 simp only at h1 h2
 subst h1 h2
 have e0:Rg.times ⟨a,a⟩ ⟨c,c⟩=only (wrap64 (a*c)):=by unfold Rg.times;rw [if_pos ⟨rfl,rfl⟩,zc2]
 rw [e0]
 have hcall:=fun W=>zh2 (wrap64 (a*c)) W
 have T:=zgC w (.cells #[.int .i64 a,.int .i64 a] 213) (.cells #[.int .i64 c,.int .i64 c] 213)
 go_enter Tryz.func245,Tryz.ntmps245
 go_wp2_with(go_at_call 226;(with_reducible refine(hcall _).mono ?_);rintro e w4 ⟨rfl,hb4⟩;obtain⟨d0,d1,g0,g1,hbw⟩:=T w4 hb4)
 exact zb0 (r:=only (wrap64 (a*c))) Tryz.results245 rfl rfl (zap d0 d1).1 (zap d0 d1).2 ⟨rfl,zat hbw (by omega)⟩
end
end Go.Proofs.YtfpgjkbjbbgciaaGreatDoor
