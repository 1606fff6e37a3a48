import Derived.Test.YtfpgjkbjbbgciaaGreatDoorMk35
import Derived.Test.YtfpgjkbjbbgciaaGreatDoorMk38
set_option maxRecDepth 100000
set_option maxHeartbeats 8000000
namespace Go.Proofs.YtfpgjkbjbbgciaaGreatDoor
open Sp
variable {C:List (Ins × Int)} {k k1 k' s t:Kn} {l l1 l2:List Kn} {p q e:Nat} {H Gv:Nat→Bool} {Cn:List Nat} {wt Fr:Nat}
theorem zmW{x:Int}(h0:-9000000000000000000≤x)(h1:x≤9000000000000000000):w64 x=x:=by unfold w64;omega
theorem zvc{a b:Int}(h0:-9000000000000000000≤a+b)(h1:a+b≤9000000000000000000):(only a).plus (only b)=only (a+b):=by
 unfold Rg.plus zeW;have w1:(only a).width=0:=by simp [Rg.width,only]
 have c:(only b).width=0:=by simp [Rg.width,only]
 rw [w1,c];show(if(18446744073709551616:Int)≤0+0∨w64 (w64 (a+b)+(0+0))<w64 (a+b) then anyR else⟨w64 (a+b),w64 (w64 (a+b)+(0+0))⟩)=_;rw [zmW h0 h1,show a+b+(0+0)=a+b by omega,zmW h0 h1,if_neg (by omega)];rfl
theorem zgj{f:Nat→Rg}{r:Nat}{v:Rg}(h:f r=v):updR f r v=f:=by
 funext j
 unfold updR;split
 ·rename_i e;rw [e,h]
 ·rfl
theorem zlg{i n:Nat}(hin:¬i=n){x y to:Int}(hi:k.regs i=only x)(hn:k.regs n=only y)(h:x<y):zam (.less i n to) k=some [k.goTo to]:=by
 have e:zam (.less i n to) k=if i=n then some [k.goTo (k.next+1)] else some (zaX k i n zdl zaD to):=rfl
 rw [e,if_neg hin];unfold zaX;have a:zdl (only x) (only y)=some (only x,only y):=by
  unfold zdl only;rw [if_neg (by show ¬y≤x;omega)];simp only [Option.some.injEq,Prod.mk.injEq,Rg.mk.injEq,true_and,and_true];omega
 have b:zaD (only x) (only y)=none:=by
  unfold zaD only;rw [if_pos (by show x<y;exact h)]
 rw [hi,hn,a,b];simp only;rw [zgj hi,zgj hn]
theorem zj9{i n:Nat}(hin:¬i=n){x y to:Int}(hi:k.regs i=only x)(hn:k.regs n=only y)(h:y≤x):zam (.less i n to) k=some [k.goTo (k.next+1)]:=by
 have e:zam (.less i n to) k=if i=n then some [k.goTo (k.next+1)] else some (zaX k i n zdl zaD to):=rfl
 rw [e,if_neg hin];unfold zaX;have a:zdl (only x) (only y)=none:=by
  unfold zdl only;rw [if_pos (by show y≤x;exact h)]
 have b:zaD (only x) (only y)=some (only x,only y):=by
  unfold zaD only;rw [if_neg (by show ¬x<y;omega)];simp only [Option.some.injEq,Prod.mk.injEq,Rg.mk.injEq,true_and,and_true];omega
 rw [hi,hn,a,b];simp only;rw [zgj hi,zgj hn]
def zeh(H:Nat→Bool)(i n:Nat):Nat→Bool:=updH (updH H i true) n true
theorem zlh(H:Nat→Bool)(i n:Nat):zeh H i n i=true:=by unfold zeh updH;split <;> simp
theorem zx9(H:Nat→Bool)(i n:Nat):zeh H i n n=true:=by unfold zeh updH;simp
theorem zju{i n r:Nat}(h:H r=true):zeh H i n r=true:=by
 unfold zeh updH;split
 ·rfl
 ·split
  ·rfl
  ·exact h
theorem zvd{i n r:Nat}(h:zeh H i n r=true):r=i∨r=n∨H r=true:=by
 unfold zeh updH at h;split at h
 ·exact .inr (.inl ‹_›)
 ·split at h
  ·exact .inl ‹_›
  ·exact .inr (.inr h)
structure LoopAt(C:List (Ins × Int))(p e:Nat)(i n:Nat)(a b c:Int):Prop where
 c0:zcb C p (.set i a)
 c1:zcb C (p+1) (.set n b)
 c2:zcb C (p+2) (.less i n ((p+4:Nat):Int))
 c3:zcb C (p+3) (.jump ((e+2:Nat):Int))
 ci:zcb C e (.inc i c)
 cj:zcb C (e+1) (.jump ((p+2:Nat):Int))
 le:p+4≤e
theorem zgk{i:Ins}(h:zcb C p i)(hk:k.next=(p:Int))(hl:zam i k=some [k']):Stp C k k':=by
 obtain⟨a,rfl⟩:=h;exact⟨p,a,hk,hl⟩
theorem zgl(S:CodeSure C)(K:KnOk k){i:Ins}(h:zcb C p i)(hl:zam i k=some [k']):KnOk k':=by
 obtain⟨a,rfl⟩:=h;exact(zcx K (S.ok.ok p a) (S.n64 p a) hl k' (List.mem_singleton.2 rfl)).2
theorem zpW(S:CodeSure C){i n:Nat}{a b c:Int}(LA:LoopAt C p e i n a b c)(hin:¬i=n)(hFr:1≤Fr)(k:Kn)(hk:k.next=((p+2:Nat):Int))(K:Known k H Cn)(x:Int)(hx:k.regs i=only x)(hn:k.regs n=only b)(hbx:b≤x):
  ∃ l k',Tr C k l k'∧RunOf (p+2) (e+2) H Gv Fr k l k'∧l.length≤2∧∀ s∈l,∃ y,s.regs i=only y∧x≤y∧(s.next=((e+1:Nat):Int)∧s.behind=k.behind→x+c≤y):=by
 have hle:=LA.le;have j:=zj9 (k:=k) hin (to:=((p+4:Nat):Int)) hx hn hbx;have o:(k.goTo (k.next+1)).next=((p+3:Nat):Int):=by show k.next+1=_;omega
 have m:zam (.jump ((e+2:Nat):Int)) (k.goTo (k.next+1))=some [(k.goTo (k.next+1)).goTo ((e+2:Nat):Int)]:=rfl;have f:Loc (p+2) (p+3) k.behind k:=.inl ⟨rfl,p+2,hk,Nat.le_refl _,by omega⟩;have g:Loc (p+3) (e+2) k.behind (k.goTo (k.next+1)):=.inl ⟨rfl,p+3,o,Nat.le_refl _,by omega⟩;refine⟨[k,k.goTo (k.next+1)],(k.goTo (k.next+1)).goTo ((e+2:Nat):Int),.cons (zgk LA.c2 hk j) (.one (zgk LA.c3 o m)),⟨rfl,rfl,zgl S (zgl S K.ok LA.c2 j) LA.c3 m,fun _ _=>rfl,fun s hs=>?_,fun s hs r _=>?_,?_,fun s hs=>?_⟩,Nat.le_refl _,fun s hs=>?_⟩
 ·simp only [List.mem_cons,List.not_mem_nil,or_false] at hs;rcases hs with rfl|rfl
  ·exact f.mono (Nat.le_refl _) (by omega)
  ·exact g.mono (by omega) (Nat.le_refl _)
 ·simp only [List.mem_cons,List.not_mem_nil,or_false] at hs;rcases hs with rfl|rfl <;> rfl
 ·rw [List.pairwise_cons];refine⟨fun s hs=>?_,List.pairwise_singleton _ _⟩;rw [List.mem_singleton.1 hs];exact f.sep g (Nat.le_refl _)
 ·simp only [List.mem_cons,List.not_mem_nil,or_false] at hs;rcases hs with rfl|rfl
  ·omega
  ·show k.behind.length+1≤_;omega
 ·simp only [List.mem_cons,List.not_mem_nil,or_false] at hs;rcases hs with rfl|rfl
  ·exact⟨x,hx,Int.le_refl _,fun h=>by rw [hk] at h;omega⟩
  ·exact⟨x,hx,Int.le_refl _,fun h=>by rw [o] at h;omega⟩
theorem zoP(S:CodeSure C){i n:Nat}{a b c:Int}(LA:LoopAt C p e i n a b c)(hi8:i<8)(hin:¬i=n)(Hi:H i=false)(Hn:H n=false)(Gi:Gv i=true)(Gn:Gv n=true)(c0:1≤c)(c1:c≤1000)(a0:-4611686018427387904≤a)(b1:b≤4611686018427387904)
  (Cn':List Nat) (hC:∀ x∈Cn',x∈Cn∨(x=i∧0≤a∧b≤16)) (body:Sem C (p+4) e (zeh H i n) Cn' wt Gv Fr) (hFr:1≤Fr)
  (t:Nat) (k:Kn) (hk:k.next=((p+2:Nat):Int)) (K:Known k H Cn) (x:Int) (hx:k.regs i=only x) (hn:k.regs n=only b) (ax:a≤x) (xb:x≤4611686018427388904) (ht:b≤x+(t:Int)*c) (hd:k.behind.length+Fr≤16) :
  ∃ l k',Tr C k l k'∧RunOf (p+2) (e+2) H Gv Fr k l k'∧l.length≤t*(wt+3)+2∧∀ s∈l,∃ y,s.regs i=only y∧x≤y∧(s.next=((e+1:Nat):Int)∧s.behind=k.behind→x+c≤y):=by
 have hle:=LA.le
 induction t generalizing k x with
 | zero =>
  obtain⟨l,k',u,P,h3,Q⟩:=zpW (H:=H) (Cn:=Cn) (Gv:=Gv) S LA hin hFr k hk K x hx hn (by omega);exact⟨l,k',u,P,by omega,Q⟩
 | succ t ih =>
  by_cases V:b≤x
  ·obtain⟨l,k',u,P,h3,Q⟩:=zpW (H:=H) (Cn:=Cn) (Gv:=Gv) S LA hin hFr k hk K x hx hn V;exact⟨l,k',u,P,by have:=Nat.zero_le ((t+1)*(wt+3));omega,Q⟩
  ·have Y:x<b:=by omega
   have e1:=zlg (k:=k) hin (to:=((p+4:Nat):Int)) hx hn Y;have o1:=zgl S K.ok LA.c2 e1;have K1:Known (k.goTo ((p+4:Nat):Int)) (zeh H i n) Cn':=by
    refine⟨o1,fun r hr=>?_,fun y B=>?_⟩
    ·rcases zvd hr with rfl|rfl|h
     ·exact⟨x,hx⟩
     ·exact⟨b,hn⟩
     ·exact K.ex r h
    ·rcases hC y B with h|⟨rfl,h0,u⟩
     ·obtain⟨O,U⟩:=K.ct y h;exact⟨zju O,U⟩
     ·exact⟨zlh _ _ _,x,hx,by omega,by omega⟩
   obtain⟨Z,g,tb,R,hlb⟩:=body (k.goTo ((p+4:Nat):Int)) rfl K1 hd;have bb:g.behind=k.behind:=R.behind;have A:g.regs i=only x:=(R.keep i (.inl (zlh _ _ _))).trans hx;have aa:g.regs n=only b:=(R.keep n (.inl (zx9 _ _ _))).trans hn;have T:zam (.inc i c) g=some [{ g with regs:=updR g.regs i ((g.regs i).plus (only c)) }.goTo (g.next+1)]:=rfl;have o4:=zgl S R.ok LA.ci T;generalize o:({ g with regs:=updR g.regs i ((g.regs i).plus (only c)) }.goTo (g.next+1):Kn)=k4 at T o4;have n4:k4.next=((e+1:Nat):Int):=by rw [←o];show g.next+1=_;rw [R.next];omega
   have b4:k4.behind=k.behind:=by rw [←o];exact bb
   have x4:k4.regs i=only (x+c):=by
    rw [←o];show updR g.regs i ((g.regs i).plus (only c)) i=_;rw [zlf,A,zvc (by omega) (by omega)]
   have r4:∀ r,¬r=i→k4.regs r=g.regs r:=fun r hr=>by rw [←o];exact ze6 hr
   have e5:zam (.jump ((p+2:Nat):Int)) k4=some [k4.goTo ((p+2:Nat):Int)]:=rfl;have o5:=zgl S o4 LA.cj e5;have E:∀ r,H r=true∨Gv r=false→¬r=i:=fun r hr=>zc0 Hi Gi hr;have J:∀ r,H r=true∨Gv r=false→g.regs r=k.regs r:=fun r hr=>R.keep r (by
    rcases hr with h|h
    ·exact .inl (zju h)
    ·exact .inr h)
   have m:∀ r,H r=true∨Gv r=false→k4.regs r=k.regs r:=fun r hr=>(r4 r (E r hr)).trans (J r hr);have K5:Known (k4.goTo ((p+2:Nat):Int)) H Cn:=by
    refine⟨o5,fun r hr=>?_,fun y B=>?_⟩
    ·obtain⟨y,B⟩:=K.ex r hr;exact⟨y,(m r (.inl hr)).trans B⟩
    ·obtain⟨O,y2,U,g3⟩:=K.ct y B;exact⟨O,y2,(m y (.inl O)).trans U,g3⟩
   have X:b≤x+c+(t:Int)*c:=by
    have:((t+1:Nat):Int)*c=(t:Int)*c+c:=by rw [Int.natCast_add,Int.add_mul];simp
    omega
   obtain⟨l',k',t',q,hl',v⟩:=ih (k4.goTo ((p+2:Nat):Int)) rfl K5 (x+c) x4 ((r4 n (fun e=>hin e.symm)).trans aa) (by omega) (by omega) X (by show k4.behind.length+Fr≤16;rw [b4];exact hd);have bk:(k4.goTo ((p+2:Nat):Int)).behind=k.behind:=b4;have L:Loc (p+2) (p+3) k.behind k:=.inl ⟨rfl,p+2,hk,Nat.le_refl _,by omega⟩;have D:∀ s∈Z,Loc (p+4) e k.behind s:=fun s d=>R.loc s d;have N:Loc e (e+1) k.behind g:=.inl ⟨bb,e,R.next,Nat.le_refl _,by omega⟩;have M:Loc (e+1) (e+2) k.behind k4:=.inl ⟨b4,e+1,n4,Nat.le_refl _,by omega⟩;have vb:∀ s∈Z,s.regs i=only x:=fun s d=>(R.held s d i (.inl (zlh _ _ _))).trans hx;have w:∀{s t:Kn} {y:Int},s.regs i=only y→t∈l'→y<x+c→Sep s t:=fun{s t y} d ht B=>by
    obtain⟨z,F,G,_⟩:=v t ht;exact .inr ⟨i,y,z,hi8,d,F,by omega⟩
   refine⟨k :: (Z++g :: k4 :: l'),k',.cons (zgk LA.c2 hk e1) (tb.app (.cons (zgk LA.ci R.next T) (.cons (zgk LA.cj n4 e5) t'))),⟨q.next,q.behind.trans bk,q.ok,fun r hr=>(q.keep r hr).trans (m r hr),fun s d=>?_,fun s d r hr=>?_,?_,fun s d=>?_⟩,?_,fun s d=>?_⟩
   ·simp only [List.mem_cons,List.mem_append] at d;rcases d with rfl|d|rfl|rfl|d
    ·exact L.mono (Nat.le_refl _) (by omega)
    ·exact(D s d).mono (by omega) (by omega)
    ·exact N.mono (by omega) (by omega)
    ·exact M.mono (by omega) (Nat.le_refl _)
    ·have:=q.loc s d;rwa [bk] at this
   ·simp only [List.mem_cons,List.mem_append] at d;rcases d with rfl|d|rfl|rfl|d
    ·rfl
    ·exact R.held s d r (by
      rcases hr with h|h
      ·exact .inl (zju h)
      ·exact .inr h)
    ·exact J r hr
    ·exact m r hr
    ·exact(q.held s d r hr).trans (m r hr)
   ·rw [List.pairwise_cons,List.pairwise_append,List.pairwise_cons,List.pairwise_cons];refine⟨fun s d=>?_,R.sep,⟨fun s d=>?_,fun s d=>?_,q.sep⟩,fun s d t ht=>?_⟩
    ·simp only [List.mem_cons,List.mem_append] at d;rcases d with d|rfl|rfl|d
     ·exact L.sep (D s d) (by omega)
     ·exact L.sep N (by omega)
     ·exact L.sep M (by omega)
     ·exact w hx d (by omega)
    ·simp only [List.mem_cons] at d;rcases d with rfl|d
     ·exact N.sep M (Nat.le_refl _)
     ·exact w A d (by omega)
    ·obtain⟨z,F,G,I⟩:=v s d;by_cases W:k4.next=s.next∧k4.behind=s.behind
     ·have:=I ⟨W.1.symm.trans n4,W.2.symm⟩;exact .inr ⟨i,x+c,z,hi8,x4,F,by omega⟩
     ·exact .inl W
    ·simp only [List.mem_cons] at ht;rcases ht with rfl|rfl|ht
     ·exact(D s d).sep N (Nat.le_refl _)
     ·exact(D s d).sep M (by omega)
     ·exact w (vb s d) ht (by omega)
   ·simp only [List.mem_cons,List.mem_append] at d;rcases d with rfl|d|rfl|rfl|d
    ·omega
    ·exact R.deep s d
    ·rw [bb];omega
    ·rw [b4];omega
    ·have:=q.deep s d;rwa [bk] at this
   ·simp only [List.length_cons,List.length_append];have:(t+1)*(wt+3)=t*(wt+3)+(wt+3):=by rw [Nat.add_mul];simp
    omega
   ·simp only [List.mem_cons,List.mem_append] at d;rcases d with rfl|d|rfl|rfl|d
    ·exact⟨x,hx,Int.le_refl _,fun h=>by rw [hk] at h;omega⟩
    ·refine⟨x,vb s d,Int.le_refl _,fun h=>?_⟩;rcases D s d with ⟨_,y,P,_,Q⟩|⟨y,r,u,_,_⟩
     ·rw [P] at h;omega
     ·rw [h.2] at u;have:=congrArg List.length u;simp at this
    ·exact⟨x,A,Int.le_refl _,fun h=>by rw [R.next] at h;omega⟩
    ·exact⟨x+c,x4,by omega,fun _=>Int.le_refl _⟩
    ·obtain⟨z,F,G,I⟩:=v s d;exact⟨z,F,by omega,fun h=>by omega⟩
theorem Sem.loop(S:CodeSure C){i n:Nat}{a b c:Int}(LA:LoopAt C p e i n a b c)(hi8:i<8)(hin:¬i=n)(Hi:H i=false)(Hn:H n=false)(Gi:Gv i=true)(Gn:Gv n=true)(c0:1≤c)(c1:c≤1000)(a0:-4611686018427387904≤a)(a1:a≤4611686018427387904)(b1:b≤4611686018427387904)
  (Cn':List Nat) (hC:∀ x∈Cn',x∈Cn∨(x=i∧0≤a∧b≤16)) (body:Sem C (p+4) e (zeh H i n) Cn' wt Gv Fr) (hFr:1≤Fr) (t:Nat) (ht:b≤a+(t:Int)*c):Sem C p (e+2) H Cn (t*(wt+3)+4) Gv Fr:=by
 intro k F K Q;have hle:=LA.le;have w:zam (.set i a) k=some [{ k with regs:=updR k.regs i (only a) }.goTo (k.next+1)]:=rfl;have J:=zgl S K.ok LA.c0 w;generalize f:({ k with regs:=updR k.regs i (only a) }.goTo (k.next+1):Kn)=k1 at w J;have I:k1.next=((p+1:Nat):Int):=by rw [←f];show k.next+1=_;omega
 have m:k1.behind=k.behind:=by rw [←f];rfl
 have W:k1.regs i=only a:=by rw [←f];exact zlf _ _ _
 have M:∀ r,¬r=i→k1.regs r=k.regs r:=fun r hr=>by rw [←f];exact ze6 hr
 have A:zam (.set n b) k1=some [{ k1 with regs:=updR k1.regs n (only b) }.goTo (k1.next+1)]:=rfl;have L:=zgl S J LA.c1 A;generalize d:({ k1 with regs:=updR k1.regs n (only b) }.goTo (k1.next+1):Kn)=k2 at A L;have T:k2.next=((p+2:Nat):Int):=by rw [←d];show k1.next+1=_;omega
 have v:k2.behind=k.behind:=by rw [←d];exact m
 have X:k2.regs i=only a:=by rw [←d];exact(ze6 hin).trans W
 have Y:k2.regs n=only b:=by rw [←d];exact zlf _ _ _
 have U:∀ r,¬r=i→¬r=n→k2.regs r=k.regs r:=fun r hr hr'=>by rw [←d];exact(ze6 hr').trans (M r hr)
 have D:∀ r,H r=true∨Gv r=false→k1.regs r=k.regs r:=fun r hr=>M r (zc0 Hi Gi hr);have g:∀ r,H r=true∨Gv r=false→k2.regs r=k.regs r:=fun r hr=>U r (zc0 Hi Gi hr) (zc0 Hn Gn hr);have N:Known k2 H Cn:=by
  refine⟨L,fun r hr=>?_,fun y B=>?_⟩
  ·obtain⟨y,B⟩:=K.ex r hr;exact⟨y,(g r (.inl hr)).trans B⟩
  ·obtain⟨E,z,O,P⟩:=K.ct y B;exact⟨E,z,(g y (.inl E)).trans O,P⟩
 obtain⟨G,R,V,h,hl',_⟩:=zoP S LA hi8 hin Hi Hn Gi Gn c0 c1 a0 b1 Cn' hC body hFr t k2 T N a X Y (Int.le_refl _) (by omega) ht (by rw [v];exact Q);have o:Loc p (p+1) k.behind k:=.inl ⟨rfl,p,F,Nat.le_refl _,by omega⟩;have q:Loc (p+1) (p+2) k.behind k1:=.inl ⟨m,p+1,I,Nat.le_refl _,by omega⟩;have u:∀ s∈G,Loc (p+2) (e+2) k.behind s:=fun s hs=>by have:=h.loc s hs;rwa [v] at this
 refine⟨k :: k1 :: G,R,.cons (zgk LA.c0 F w) (.cons (zgk LA.c1 I A) V),⟨h.next,h.behind.trans v,h.ok,fun r hr=>(h.keep r hr).trans (g r hr),fun s hs=>?_,fun s hs r hr=>?_,?_,fun s hs=>?_⟩,by simp only [List.length_cons];omega⟩
 ·simp only [List.mem_cons] at hs;rcases hs with rfl|rfl|hs
  ·exact o.mono (Nat.le_refl _) (by omega)
  ·exact q.mono (by omega) (by omega)
  ·exact(u s hs).mono (by omega) (Nat.le_refl _)
 ·simp only [List.mem_cons] at hs;rcases hs with rfl|rfl|hs
  ·rfl
  ·exact D r hr
  ·exact(h.held s hs r hr).trans (g r hr)
 ·rw [List.pairwise_cons,List.pairwise_cons];refine⟨fun s hs=>?_,fun s hs=>q.sep (u s hs) (Nat.le_refl _),h.sep⟩;simp only [List.mem_cons] at hs;rcases hs with rfl|hs
  ·exact o.sep q (Nat.le_refl _)
  ·exact o.sep (u s hs) (by omega)
 ·simp only [List.mem_cons] at hs;rcases hs with rfl|rfl|hs
  ·omega
  ·rw [m];omega
  ·have:=h.deep s hs;rwa [v] at this
structure FnSem(C:List (Ins × Int))(ent e:Nat)(wt:Nat)(Gf:Nat→Bool)(Fr:Nat):Prop where
 body:Sem C ent e (fun _=>false) [] wt Gf Fr
 back:zcb C e .back
 pos:1≤Fr
theorem Sem.call(S:CodeSure C){ent:Nat}{Gf:Nat→Bool}(h:zcb C p (.call (ent:Int)))(F:FnSem C ent e wt Gf Fr)(hH:∀ r,H r=true→Gf r=false)(hG:∀ r,Gf r=true→Gv r=true):Sem C p (p+1) H Cn (wt+2) Gv (Fr+1):=by
 intro k D K hd;have hpos:=F.pos;have u:zam (.call (ent:Int)) k=some [{ k with behind:=k.behind++[k.next+1] }.goTo (ent:Int)]:=by
  have e:zam (.call (ent:Int)) k=if k.behind.length+1=16 then none else some [{ k with behind:=k.behind++[k.next+1] }.goTo (ent:Int)]:=rfl
  rw [e,if_neg (by omega)]
 have G:=zgl S K.ok h u;generalize l:({ k with behind:=k.behind++[k.next+1] }.goTo (ent:Int):Kn)=k1 at u G;have M:k1.behind=k.behind++[((p+1:Nat):Int)]:=by rw [←l];show k.behind++[k.next+1]=_;rw [D];rfl
 have I:∀ r,k1.regs r=k.regs r:=fun r=>by rw [←l];rfl
 have l1:k1.behind.length=k.behind.length+1:=by rw [M];simp
 have J:Known k1 (fun _=>false) []:=⟨G,fun r d=>(by cases d),fun c hc=>(by cases hc)⟩
 obtain⟨E,j,O,R,hlb⟩:=F.body k1 (by rw [←l];rfl) J (by omega);have v:j.behind=k.behind++[((p+1:Nat):Int)]:=R.behind.trans M;have w:zam .back j=some [{ j with behind:=k.behind }.goTo ((p+1:Nat):Int)]:=by
  have e:zam .back j=(match j.behind with|[]=>some []|b :: r=>some [{ j with behind:=(b :: r).dropLast }.goTo ((b :: r).getLastD 0)]):=rfl;rw [e,v];cases hb:k.behind++[((p+1:Nat):Int)] with
  | nil=>simp at hb
  | cons z r =>
   simp only;rw [←hb,List.dropLast_concat];simp
 have N:=zgl S R.ok F.back w;have A:∀ r,H r=true∨Gv r=false→(fun _=>false) r=true∨Gf r=false:=fun r d=>by
  right;rcases d with h|h
  ·exact hH r h
  ·cases e:Gf r with
   | false=>rfl
   | true=>rw [hG r e] at h;cases h
 have m:∀ r,H r=true∨Gv r=false→j.regs r=k.regs r:=fun r d=>(R.keep r (A r d)).trans (I r);have L:Loc p (p+1) k.behind k:=.inl ⟨rfl,p,D,Nat.le_refl _,by omega⟩;have o:∀ s∈E,Loc ent e (k.behind++[((p+1:Nat):Int)]) s:=fun s a=>by have:=R.loc s a;rwa [M] at this
 have q:Loc e (e+1) (k.behind++[((p+1:Nat):Int)]) j:=.inl ⟨v,e,R.next,Nat.le_refl _,by omega⟩;have up:∀{s:Kn} {x y:Nat},Loc x y (k.behind++[((p+1:Nat):Int)]) s→∃ f,s.behind=k.behind++((p+1:Nat):Int) :: f:=fun{s x y} a=>by
  rcases a with ⟨B,_⟩|⟨z,r,B,_⟩
  ·exact⟨[],B⟩
  ·exact⟨(z:Int) :: r,by rw [B];simp⟩
 have i:∀{s:Kn} {x y:Nat},Loc x y (k.behind++[((p+1:Nat):Int)]) s→Loc p (p+1) k.behind s∧Sep k s:=fun{s x y} a=>by
  obtain⟨f,d⟩:=up a;refine⟨.inr ⟨p+1,f,d,by omega,Nat.le_refl _⟩,.inl fun h=>?_⟩;have:=congrArg List.length (h.2.trans d);simp at this
 refine⟨k :: (E++[j]),{ j with behind:=k.behind }.goTo ((p+1:Nat):Int),.cons (zgk h D u) (O.app (.one (zgk F.back R.next w))),⟨rfl,rfl,N,fun r d=>m r d,fun s a=>?_,fun s a r d=>?_,?_,fun s a=>?_⟩,by simp only [List.length_cons,List.length_append,List.length_nil];omega⟩
 ·simp only [List.mem_cons,List.mem_append,List.not_mem_nil,or_false] at a;rcases a with rfl|a|rfl
  ·exact L
  ·exact(i (o s a)).1
  ·exact(i q).1
 ·simp only [List.mem_cons,List.mem_append,List.not_mem_nil,or_false] at a;rcases a with rfl|a|rfl
  ·rfl
  ·exact(R.held s a r (A r d)).trans (I r)
  ·exact m r d
 ·rw [List.pairwise_cons,List.pairwise_append];refine⟨fun s a=>?_,R.sep,List.pairwise_singleton _ _,fun s a t ht=>?_⟩
  ·simp only [List.mem_append,List.mem_cons,List.not_mem_nil,or_false] at a;rcases a with a|rfl
   ·exact(i (o s a)).2
   ·exact(i q).2
  ·rw [List.mem_singleton.1 ht];exact(o s a).sep q (Nat.le_refl _)
 ·simp only [List.mem_cons,List.mem_append,List.not_mem_nil,or_false] at a;rcases a with rfl|a|rfl
  ·omega
  ·have:=R.deep s a;omega
  ·rw [v,List.length_append];simp only [List.length_cons,List.length_nil];omega
end Go.Proofs.YtfpgjkbjbbgciaaGreatDoor
