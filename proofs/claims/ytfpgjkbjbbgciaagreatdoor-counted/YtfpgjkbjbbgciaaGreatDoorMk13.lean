import Derived.Test.YtfpgjkbjbbgciaaGreatDoorMk11
import Derived.Test.YtfpgjkbjbbgciaaGreatDoorMk12
set_option maxRecDepth 100000
set_option maxHeartbeats 8000000
namespace Go.Proofs.YtfpgjkbjbbgciaaGreatDoor
section
open Sp
structure Fn where
 name:ByteArray
 line:Int
 body:List Key
def labsOf(b:List Key):List ByteArray:=(b.filter (fun k=>decide (k.sort=1))).map Key.nm
def addK(F:List Fn)(k:Key):List Fn :=
 if k.sort=0 then F++[⟨k.nm,k.line,[]⟩]
 else match F.getLast? with
  | none=>F
  | some f=>F.dropLast++[⟨f.name,f.line,f.body++[k]⟩]
theorem zct(F:List Fn)(k:Key)(h:k.sort=0):addK F k=F++[⟨k.nm,k.line,[]⟩]:=by simp [addK,h]
theorem zfO(F:List Fn)(f:Fn)(k:Key)(h:¬k.sort=0):addK (F++[f]) k=F++[⟨f.name,f.line,f.body++[k]⟩]:=by simp [addK,h]
def bad0(F:List Fn)(k:Key):Bool :=
 if k.sort=0 then(F.map Fn.name).any (fun y=>eqW y k.nm)
 else if k.sort=1 then(match F.getLast? with|none=>false|some f=>(labsOf f.body).any (fun y=>eqW y k.nm)) else false
def zar(L:List Said)(i:Nat):List Key :=
 if h:i<L.length then(if L[i].kind=102 then [] else if L[i].kind=0 then zar L (i+1) else keyQ L[i] ((i:Int)+1) :: zar L (i+1)) else []
termination_by L.length-i
def zaN(L:List Said)(i:Nat):List Fn :=
 if h:i<L.length then(if L[i].kind=102 then⟨L[i].word 1,(i:Int)+1,zar L (i+1)⟩ :: zaN L (i+1) else zaN L (i+1)) else []
termination_by L.length-i
def zbb(L:List Said)(i:Nat):List Key :=
 if h:i<L.length then(if L[i].kind=0 then zbb L (i+1) else keyQ L[i] ((i:Int)+1) :: zbb L (i+1)) else []
termination_by L.length-i
theorem zcu(L:List Said)(i:Nat)(h:¬i<L.length):zar L i=[]:=by rw [zar,dif_neg h]
theorem zcE(L:List Said)(i:Nat)(h:i<L.length)(h1:L[i].kind=102):zar L i=[]:=by rw [zar,dif_pos h,if_pos h1]
theorem zbT(L:List Said)(i:Nat)(h:i<L.length)(h0:L[i].kind=0):zar L i=zar L (i+1):=by rw [zar,dif_pos h,if_neg (by omega),if_pos h0]
theorem zb7(L:List Said)(i:Nat)(h:i<L.length)(h0:¬L[i].kind=0)(h1:¬L[i].kind=102):zar L i=keyQ L[i] ((i:Int)+1) :: zar L (i+1):=by rw [zar,dif_pos h,if_neg h1,if_neg h0]
theorem zcF(L:List Said)(i:Nat)(h:¬i<L.length):zaN L i=[]:=by rw [zaN,dif_neg h]
theorem zbN(L:List Said)(i:Nat)(h:i<L.length)(h1:L[i].kind=102):zaN L i=⟨L[i].word 1,(i:Int)+1,zar L (i+1)⟩ :: zaN L (i+1):=by rw [zaN,dif_pos h,if_pos h1]
theorem zbH(L:List Said)(i:Nat)(h:i<L.length)(h1:¬L[i].kind=102):zaN L i=zaN L (i+1):=by rw [zaN,dif_pos h,if_neg h1]
theorem zcM(L:List Said)(i:Nat)(h:¬i<L.length):zbb L i=[]:=by rw [zbb,dif_neg h]
theorem zcZ(L:List Said)(i:Nat)(h:i<L.length)(h0:L[i].kind=0):zbb L i=zbb L (i+1):=by rw [zbb,dif_pos h,if_pos h0]
theorem zbr(L:List Said)(i:Nat)(h:i<L.length)(h0:¬L[i].kind=0):zbb L i=keyQ L[i] ((i:Int)+1) :: zbb L (i+1):=by rw [zbb,dif_pos h,if_neg h0]
theorem zep(q:Said)(h:q.kind=102):zfq q=0:=by simp [zfq,h]
theorem zfv(q:Said)(h:q.kind=108):zfq q=1:=by simp [zfq,h]
theorem zeq(q:Said)(h1:¬q.kind=102)(h2:¬q.kind=108):zfq q=2:=by simp [zfq,h1,h2]
theorem zfw(q:Said)(h1:¬q.kind=102):¬zfq q=0:=by unfold zfq;rw [if_neg h1];split <;> decide
theorem zgy(q:Said)(h:q.kind=102):zcC q=q.word 1:=by simp [zcC,h]
theorem zkz(q:Said)(h:q.kind=108):zcC q=q.word 0:=by simp [zcC,h]
theorem zfP(L:List Said)(i:Nat)(F:List Fn)(f:Fn):(zbb L i).foldl addK (F++[f])=F++(⟨f.name,f.line,f.body++zar L i⟩ :: zaN L i):=by
 by_cases h:i<L.length
 ·by_cases b:L[i].kind=0
  ·rw [zcZ L i h b,zbT L i h b,zbH L i h (by omega)];exact zfP L (i+1) F f
  ·rw [zbr L i h b,List.foldl_cons];by_cases a:L[i].kind=102
   ·rw [zct _ _ (zep _ a),zfP L (i+1) (F++[f]) _,zcE L i h a,zbN L i h a];simp [keyQ,zgy _ a]
   ·rw [zfO _ _ _ (zfw _ a),zfP L (i+1) F _,zb7 L i h b a,zbH L i h a];simp
 ·rw [zcM L i h,zcu L i h,zcF L i h];simp
termination_by L.length-i
theorem zir(A:List ByteArray)(i:Nat):zaU A A.length=zaU A (min i A.length)++zbb (A.map say) i:=by
 by_cases h:i<A.length
 ·have b:i<(A.map say).length:=by simpa using h
  have c:(A.map say)[i]=say A[i]:=by simp
  rw [zir A (i+1),Nat.min_eq_left (show i+1≤A.length from h),Nat.min_eq_left (Nat.le_of_lt h)];by_cases a:(say A[i]).kind=0
  ·rw [zim A i h a,zcZ _ i b (by rw [c];exact a)]
  ·rw [zjL A i h a,zbr _ i b (by rw [c];exact a),c];simp
 ·rw [zcM _ i (by simpa using h),Nat.min_eq_right (by omega)];simp
termination_by A.length-i
theorem zk0(A:List ByteArray):zaU A A.length=zbb (A.map say) 0:=by
 rw [zir A 0];simp [zaU]
theorem zfQ(L:List Said)(i:Nat)(x:ByteArray):(labsOf (zar L i)).any (fun y=>eqW y x)=decide (0≤zbg L x i):=by
 by_cases h:i<L.length
 ·by_cases a:L[i].kind=102
  ·rw [zcE L i h a,zhW L x i h a];rfl
  ·by_cases c:L[i].kind=0
   ·rw [zbT L i h c,zcq L x i h a (by simp [zcO,c])];exact zfQ L (i+1) x
   ·rw [zb7 L i h c a];by_cases b:L[i].kind=108
    ·have e:labsOf (keyQ L[i] ((i:Int)+1) :: zar L (i+1))=L[i].word 0 :: labsOf (zar L (i+1)):=by
      simp [labsOf,keyQ,zfv _ b,zkz _ b]
     rw [e,List.any_cons];by_cases d:eqW (L[i].word 0) x=true
     ·rw [zdh L x i h a (by simp [zcO,b,d]),d];simp
     ·rw [zcq L x i h a (by simp [zcO,d]),zfQ L (i+1) x];simp [d]
    ·have e:labsOf (keyQ L[i] ((i:Int)+1) :: zar L (i+1))=labsOf (zar L (i+1)):=by
      simp [labsOf,keyQ,zeq _ a b]
     rw [e,zcq L x i h a (by simp [zcO,b])];exact zfQ L (i+1) x
 ·rw [zcu L i h,zfm L x i h];rfl
termination_by L.length-i
theorem zn9(L:List Said)(i:Nat)(x:ByteArray):((zaN L i).map Fn.name).any (fun y=>eqW y x)=decide (0≤zb1 L x i):=by
 by_cases h:i<L.length
 ·by_cases a:L[i].kind=102
  ·rw [zbN L i h a,List.map_cons,List.any_cons];by_cases b:eqW (L[i].word 1) x=true
   ·rw [zdA L x i h (by simp [isFn,a,b])];simp [b]
   ·rw [zdg L x i h (by simp [isFn,b]),zn9 L (i+1) x];simp [b]
  ·rw [zbH L i h a,zdg L x i h (by simp [isFn,a])];exact zn9 L (i+1) x
 ·rw [zcF L i h,zgr L x i h];rfl
termination_by L.length-i
def zq5(b:List Key):Bool:=match b.getLast? with|none=>false|some k=>ends k.word
theorem zsU:ends ⟨#[]⟩=false:=by simp [ends,isW,ByteArray.toList_eq]
def WfAll(L:List Said):Prop:=∀ q∈L,Wf q
theorem WfAll.at{L:List Said}(hw:WfAll L)(i:Nat)(h:i<L.length):Wf L[i]:=hw _ (List.getElem_mem h)
theorem zsV(L:List Said)(hw:WfAll L)(i:Nat)(e:Bool):zfF L i e=(match (zar L i).getLast? with|none=>e|some k=>ends k.word):=by
 by_cases h:i<L.length
 ·by_cases a:L[i].kind=102
  ·rw [zcE L i h a,znu L i e h a];rfl
  ·rw [zeC L i e h a,zsV L hw (i+1)];by_cases b:L[i].kind=0
   ·rw [zbT L i h b];simp [b]
   ·rw [zb7 L i h b a,List.getLast?_cons];cases hb:(zar L (i+1)).getLast? with
    | some k=>rfl
    | none =>
     by_cases h2:L[i].kind=108
     ·simp [h2,keyQ,zdQ,zsU]
     ·have h5:L[i].kind=105:=by
       have:=hw.at i h;unfold Wf at this;omega
      simp [h5,keyQ,zdQ]
 ·rw [zcu L i h,zhX L i e h];rfl
termination_by L.length-i
end
section
open Go.RowKit Sp
theorem zcQ{w:World}{b:Nat}{e:TypeId}{size n:Nat}{v:Value}{xs:List Value}(h:w.ownsRow (b+1) e size v n xs):v.ownBlock≠some b:=fun hb=>by have:=(h.lt b hb).1;omega
theorem zfu{w w':World}{b:Nat}(hb:b<w.heap.size)(hg:w.grownBy w' (some b)):Below b w w':=(Below.refl b w).grown hg (by omega) (fun j hj=>by cases hj;exact Nat.le_refl _)
theorem zul(r o:Rg)(w:World)(hr:r.Ok)(ho:o.Ok):Calls Tryz.prog 245 #[rv r,rv o] w fun e w'=>e=.returned (rv (r.times o))∧Below w.heap.size w w':=by
 obtain⟨a,b⟩:=r;obtain⟨c,d⟩:=o;by_cases f:a=b
 ·subst f;by_cases g:c=d
  ·exact zuj _ _ w rfl g
  ·exact zuk a a c d w hr ho (.inr ⟨by simp,by simpa using g⟩)
 ·exact zuk a b c d w hr ho (.inl (by simpa using f))
end
section
open Go.ChangeShapes Go.WideShapes Go.ChangeAt Go.RowKit Sp
end
section
open Go.RowKit Sp
theorem zvZ{w:World}{B g c:Nat}{I:List Int}{x:Int}(h:w.ownsRow B 3 1 (.slice (some ⟨g,0,none⟩) (I.length+1) c) (I.length+1) (i64s (I++[x]))):w.ownsRow B 3 1 (.slice (some ⟨g,0,none⟩) I.length c) I.length (i64s I):=by
 refine⟨by simp,?_⟩;rcases h.2 with ⟨a,_⟩|⟨g',c',b,a,d,e,hn,f,i,j⟩
 ·simp at a
 ·simp only [Value.slice.injEq,Option.some.injEq,Addr.mk.injEq,true_and,and_true] at a;obtain⟨rfl,rfl⟩:=a;refine .inr ⟨g,c,b,rfl,d,e,by omega,f,i,?_⟩;have:=congrArg (List.take I.length) j;rw [List.take_take] at this;simpa using this
def SlB(w:World)(b:Nat)(v:Value)(l:List Int):Prop:=∃ ao cap,v=.slice ao l.length cap∧l.length≤cap∧(0<l.length→∃ g o,ao=some ⟨g,o,none⟩∧g<b∧g<w.heap.size∧∀ j (h:j<l.length),w.cell? ⟨g,o+j,none⟩=some (.int .i64 l[j]))
theorem SlB.below{w w':World}{b:Nat}{v:Value}{l:List Int}(h:SlB w b v l)(hb:Below b w w'):SlB w' b v l:=by
 obtain⟨f,a,i,k,m⟩:=h;refine⟨f,a,i,k,fun hp=>?_⟩;obtain⟨g,o,e,d,c,n⟩:=m hp;exact⟨g,o,e,d,Nat.lt_of_lt_of_le c hb.size,fun j hj=>(hb.cell (p:=⟨g,o+j,none⟩) d).trans (n j hj)⟩
theorem zqx(w:World)(a:Value):∀ j u,[a][j]?=some u→(w.alloc (.cells #[a] 2)).cell? ((⟨w.heap.size,0,none⟩:Addr).add j)=some u:=by
 intro j u b;have c:=World.cell?_alloc_new (w:=w) #[a] 2 j;have h2:(⟨w.heap.size,0,none⟩:Addr).add j=⟨w.heap.size,j,none⟩:=by simp [Addr.add];omega
 rw [h2,c];rw [←List.getElem?_toArray] at b;exact b
end
section
open Go.RowKit Sp
attribute [local go_sem ↓] Go.wp_at_zero Go.wp_at_succ
theorem zqy(w:World)(b B:Nat)(bv iv ov:Value)(m:Mc)(x:Int)(h:MchM w b bv iv ov m)(hown:w.ownsRow B 2 1 ov m.out.length (i64s m.out))(hno:ov.ownBlock≠some b)(hB:B≤w.heap.size)(hlen:m.out.length≤100000):
  Calls Tryz.prog 264 #[.pointer (some ⟨b,0,none⟩),.int .i64 x] w fun e w'=>e=.returned (.tuple #[]) ∧
   ∃ v' w4,MchM w' b bv iv v' { m with out:=m.out++[x] }∧w4.ownsRow B 2 1 v' (m.out.length+1) (i64s (m.out++[x]))∧w.grownBy w4 ov.ownBlock∧w4.grownBy w' (some b):=by
 have r:=h.lt;have f:=h.cO;obtain⟨q,k,l,n,o⟩:=info_parts Tryz.info2;have g:some b≠ov.ownBlock:=fun e=>hno e.symm;have hne4:¬w.heap.size=b:=by omega
 have hne5:¬b=w.heap.size:=by omega
 go_enter Tryz.func264,Tryz.ntmps264;go_wp2_with(first
  | (at_builtin;refine wpList_append_own _ rfl _ _ 29 rfl B 2 q (.int .i64 0) 1 8 Tryz.under29 k l n o rfl (by decide) _ _ _ rfl (hown.alloc _) ⟨w.heap.size,0,none⟩ 1 1 [.int .i64 x] rfl rfl (zqx _ _) (by simp [Value.oneCell']) (by unfold maxLen;omega) (by omega) (by simp;omega) ?_))
 intro v' w4 d a _;obtain⟨p,c,rfl,hgb,hgl⟩:=d.form (by omega);have i:MchM w4 b bv iv ov m:=h.of_block ((a.block b (by simp;omega) g).trans (Below.heap_alloc _ _ _ r));have j:w.grownBy w4 ov.ownBlock:=(World.grownBy_alloc w _ _).trans a;clear f;have f:=i.cO;have hfo:=i.fz 25;go_wp2
 go_end0
 exact⟨rfl,_,w4,i.setO (.slice (some ⟨p,0,none⟩) (m.out.length+1) c) (m.out++[x]),by simpa [i64s] using d,j,zah (Below.refl _ _)⟩
theorem zqz(w:World)(b c:Nat)(ao:Option Addr)(iv ov:Value)(m:Mc)(to:Int)(h:MchM w b (.slice ao 15 c) iv ov m)(h2:(m.fin == 2)=false):
  Calls Tryz.prog 281 #[.pointer (some ⟨b,0,none⟩),.int .i64 to] w fun e w'=>e=.returned (.tuple #[])∧MchM w' b (.slice ao 15 c) iv ov { m with fin:=4 }∧w.grownBy w' (some b):=by
 have hce:=h.cE;have hfe:=h.fz 30;have f:=zeD w b 15 c ao iv ov m h (by omega) h2;go_enter Tryz.func281,Tryz.ntmps281;go_wp2_with(first|(go_at_call 110;refine f.mono ?_;rintro e wx ⟨rfl,d⟩;have a:=d.symm;subst a))
 (try simp only [Exit.inBlock,Exit.then]);refine bodyPost_ret (results_none rfl _ _ _) rfl ?_
 exact⟨rfl,h.setE 4,zah (Below.refl _ _)⟩
theorem zsS(w:World)(b c:Nat)(ao:Option Addr)(iv ov:Value)(m:Mc)(h:MchM w b (.slice ao 0 c) iv ov m)(h0:0≤m.steps)(h1:m.steps≤100000):
  Calls Tryz.prog 222 #[.pointer (some ⟨b,0,none⟩)] w fun e w'=>e=.returned (.tuple #[])∧MchM w' b (.slice ao 0 c) iv ov { m with steps:=m.steps+1,fin:=2 }∧w.grownBy w' (some b):=by
 have hcb:=h.cB;go_enter Tryz.func222,Tryz.ntmps222;go_wp2_with(first|(go_at_call 286;refine(zib w b _ iv ov m 2 h h0 h1).mono ?_;rintro e w2 ⟨rfl,a,d⟩))
 (try simp only [Exit.inBlock,Exit.then]);refine bodyPost_ret (results_none rfl _ _ _) rfl ?_
 exact⟨rfl,a,d⟩
theorem zvW(w:World)(b c g n:Nat)(iv ov:Value)(m:Mc)(to:Int)(l:List Int)(h:MchM w b (.slice (some ⟨g,0,none⟩) (n+1) c) iv ov m)(hcg:w.cell? ⟨g,n,none⟩=some (.int .i64 to))(hgb:¬g=b)(hn:n≤16)(hc:n+1≤c)(h0:0≤m.steps)(h1:m.steps≤100000):
  Calls Tryz.prog 222 #[.pointer (some ⟨b,0,none⟩)] w fun e w'=>e=.returned (.tuple #[])∧MchM w' b (.slice (some ⟨g,0,none⟩) n c) iv ov ({ m with backs:=l }.goes to)∧w.grownBy w' (some b):=by
 have hcb:=h.cB;have hfb:=h.fz 27;have hbg:¬b=g:=fun e=>hgb e.symm;have hn0:(0:Int)≤(n:Int):=by omega
 have hn1:(n:Int)<(n:Int)+1:=by omega
 have f:=h.setB (.slice (some ⟨g,0,none⟩) n c) l;go_enter Tryz.func222,Tryz.ntmps222;go_wp2_with(first|(go_at_call 228;refine(zeo _ b _ iv ov _ to f h0 h1).mono ?_;rintro e w2 ⟨rfl,a,d⟩))
 go_end0
 exact⟨rfl,a,zai (zah (Below.refl _ _)) d⟩
end
end Go.Proofs.YtfpgjkbjbbgciaaGreatDoor
