import Derived.Test.YtfpgjkbjbbgciaaGreatDoorMj13
import Derived.Test.YtfpgjkbjbbgciaaGreatDoorMj15
import Derived.Test.YtfpgjkbjbbgciaaGreatDoorMj16
set_option maxRecDepth 100000
set_option maxHeartbeats 8000000
namespace Go.Proofs.YtfpgjkbjbbgciaaGreatDoor
section
open Sp
structure Fn where
 name:ByteArray
 line:Int
 body:List Key
def zcl(b:List Key):List ByteArray:=(b.filter (fun k=>decide (k.sort=1))).map Key.nm
def addK(F:List Fn)(k:Key):List Fn :=
 if k.sort=0 then F++[⟨k.nm,k.line,[]⟩]
 else match F.getLast? with
  | none=>F
  | some f=>F.dropLast++[⟨f.name,f.line,f.body++[k]⟩]
theorem zcK(F:List Fn)(k:Key)(h:k.sort=0):addK F k=F++[⟨k.nm,k.line,[]⟩]:=by simp [addK,h]
theorem zgg(F:List Fn)(f:Fn)(k:Key)(h:¬k.sort=0):addK (F++[f]) k=F++[⟨f.name,f.line,f.body++[k]⟩]:=by simp [addK,h]
def bad0(F:List Fn)(k:Key):Bool :=
 if k.sort=0 then(F.map Fn.name).any (fun y=>eqW y k.nm)
 else if k.sort=1 then(match F.getLast? with|none=>false|some f=>(zcl f.body).any (fun y=>eqW y k.nm)) else false
def zar(L:List Said)(i:Nat):List Key :=
 if h:i<L.length then(if L[i].kind=102 then [] else if L[i].kind=0 then zar L (i+1) else keyQ L[i] ((i:Int)+1) :: zar L (i+1)) else []
termination_by L.length-i
def zbc(L:List Said)(i:Nat):List Fn :=
 if h:i<L.length then(if L[i].kind=102 then⟨L[i].word 1,(i:Int)+1,zar L (i+1)⟩ :: zbc L (i+1) else zbc L (i+1)) else []
termination_by L.length-i
def zbu(L:List Said)(i:Nat):List Key :=
 if h:i<L.length then(if L[i].kind=0 then zbu L (i+1) else keyQ L[i] ((i:Int)+1) :: zbu L (i+1)) else []
termination_by L.length-i
theorem zcL(L:List Said)(i:Nat)(h:¬i<L.length):zar L i=[]:=by rw [zar,dif_neg h]
theorem zdg(L:List Said)(i:Nat)(h:i<L.length)(h1:L[i].kind=102):zar L i=[]:=by rw [zar,dif_pos h,if_pos h1]
theorem zcx(L:List Said)(i:Nat)(h:i<L.length)(h0:L[i].kind=0):zar L i=zar L (i+1):=by rw [zar,dif_pos h,if_neg (by omega),if_pos h0]
theorem zbU(L:List Said)(i:Nat)(h:i<L.length)(h0:¬L[i].kind=0)(h1:¬L[i].kind=102):zar L i=keyQ L[i] ((i:Int)+1) :: zar L (i+1):=by rw [zar,dif_pos h,if_neg h1,if_neg h0]
theorem zdh(L:List Said)(i:Nat)(h:¬i<L.length):zbc L i=[]:=by rw [zbc,dif_neg h]
theorem zcs(L:List Said)(i:Nat)(h:i<L.length)(h1:L[i].kind=102):zbc L i=⟨L[i].word 1,(i:Int)+1,zar L (i+1)⟩ :: zbc L (i+1):=by rw [zbc,dif_pos h,if_pos h1]
theorem zce(L:List Said)(i:Nat)(h:i<L.length)(h1:¬L[i].kind=102):zbc L i=zbc L (i+1):=by rw [zbc,dif_pos h,if_neg h1]
theorem zdt(L:List Said)(i:Nat)(h:¬i<L.length):zbu L i=[]:=by rw [zbu,dif_neg h]
theorem zd5(L:List Said)(i:Nat)(h:i<L.length)(h0:L[i].kind=0):zbu L i=zbu L (i+1):=by rw [zbu,dif_pos h,if_pos h0]
theorem zbD(L:List Said)(i:Nat)(h:i<L.length)(h0:¬L[i].kind=0):zbu L i=keyQ L[i] ((i:Int)+1) :: zbu L (i+1):=by rw [zbu,dif_pos h,if_neg h0]
theorem zeI(q:Said)(h:q.kind=102):zf6 q=0:=by simp [zf6,h]
theorem zfA(q:Said)(h:q.kind=108):zf6 q=1:=by simp [zf6,h]
theorem zeJ(q:Said)(h1:¬q.kind=102)(h2:¬q.kind=108):zf6 q=2:=by simp [zf6,h1,h2]
theorem zfB(q:Said)(h1:¬q.kind=102):¬zf6 q=0:=by unfold zf6;rw [if_neg h1];split <;> decide
theorem zgB(q:Said)(h:q.kind=102):zdP q=q.word 1:=by simp [zdP,h]
theorem zk6(q:Said)(h:q.kind=108):zdP q=q.word 0:=by simp [zdP,h]
theorem zgh(L:List Said)(i:Nat)(F:List Fn)(f:Fn):(zbu L i).foldl addK (F++[f])=F++(⟨f.name,f.line,f.body++zar L i⟩ :: zbc L i):=by
 by_cases h:i<L.length
 ·by_cases b:L[i].kind=0
  ·rw [zd5 L i h b,zcx L i h b,zce L i h (by omega)];exact zgh L (i+1) F f
  ·rw [zbD L i h b,List.foldl_cons];by_cases a:L[i].kind=102
   ·rw [zcK _ _ (zeI _ a),zgh L (i+1) (F++[f]) _,zdg L i h a,zcs L i h a];simp [keyQ,zgB _ a]
   ·rw [zgg _ _ _ (zfB _ a),zgh L (i+1) F _,zbU L i h b a,zce L i h a];simp
 ·rw [zdt L i h,zcL L i h,zdh L i h];simp
termination_by L.length-i
theorem zim(A:List ByteArray)(i:Nat):zbl A A.length=zbl A (min i A.length)++zbu (A.map say) i:=by
 by_cases h:i<A.length
 ·have b:i<(A.map say).length:=by simpa using h
  have c:(A.map say)[i]=say A[i]:=by simp
  rw [zim A (i+1),Nat.min_eq_left (show i+1≤A.length from h),Nat.min_eq_left (Nat.le_of_lt h)];by_cases a:(say A[i]).kind=0
  ·rw [zif A i h a,zd5 _ i b (by rw [c];exact a)]
  ·rw [zj4 A i h a,zbD _ i b (by rw [c];exact a),c];simp
 ·rw [zdt _ i (by simpa using h),Nat.min_eq_right (by omega)];simp
termination_by A.length-i
theorem zk7(A:List ByteArray):zbl A A.length=zbu (A.map say) 0:=by
 rw [zim A 0];simp [zbl]
theorem zgi(L:List Said)(i:Nat)(x:ByteArray):(zcl (zar L i)).any (fun y=>eqW y x)=decide (0≤zaY L x i):=by
 by_cases h:i<L.length
 ·by_cases a:L[i].kind=102
  ·rw [zdg L i h a,zfW L x i h a];rfl
  ·by_cases d:L[i].kind=0
   ·rw [zcx L i h d,zcd L x i h a (by simp [zdc,d])];exact zgi L (i+1) x
   ·rw [zbU L i h d a];by_cases b:L[i].kind=108
    ·have e:zcl (keyQ L[i] ((i:Int)+1) :: zar L (i+1))=L[i].word 0 :: zcl (zar L (i+1)):=by
      simp [zcl,keyQ,zfA _ b,zk6 _ b]
     rw [e,List.any_cons];by_cases c:eqW (L[i].word 0) x=true
     ·rw [zdd L x i h a (by simp [zdc,b,c]),c];simp
     ·rw [zcd L x i h a (by simp [zdc,c]),zgi L (i+1) x];simp [c]
    ·have e:zcl (keyQ L[i] ((i:Int)+1) :: zar L (i+1))=zcl (zar L (i+1)):=by
      simp [zcl,keyQ,zeJ _ a b]
     rw [e,zcd L x i h a (by simp [zdc,b])];exact zgi L (i+1) x
 ·rw [zcL L i h,zeo L x i h];rfl
termination_by L.length-i
theorem znz(L:List Said)(i:Nat)(x:ByteArray):((zbc L i).map Fn.name).any (fun y=>eqW y x)=decide (0≤zaN L x i):=by
 by_cases h:i<L.length
 ·by_cases a:L[i].kind=102
  ·rw [zcs L i h a,List.map_cons,List.any_cons];by_cases b:eqW (L[i].word 1) x=true
   ·rw [zd4 L x i h (by simp [isFn,a,b])];simp [b]
   ·rw [zdr L x i h (by simp [isFn,b]),znz L (i+1) x];simp [b]
  ·rw [zce L i h a,zdr L x i h (by simp [isFn,a])];exact znz L (i+1) x
 ·rw [zdh L i h,zfc L x i h];rfl
termination_by L.length-i
def zq3(b:List Key):Bool:=match b.getLast? with|none=>false|some k=>ends k.word
theorem ztc:ends ⟨#[]⟩=false:=by simp [ends,isW,ByteArray.toList_eq]
def WfAll(L:List Said):Prop:=∀ q∈L,Wf q
theorem WfAll.at{L:List Said}(hw:WfAll L)(i:Nat)(h:i<L.length):Wf L[i]:=hw _ (List.getElem_mem h)
theorem ztd(L:List Said)(hw:WfAll L)(i:Nat)(e:Bool):zep L i e=(match (zar L i).getLast? with|none=>e|some k=>ends k.word):=by
 by_cases h:i<L.length
 ·by_cases a:L[i].kind=102
  ·rw [zdg L i h a,znk L i e h a];rfl
  ·rw [zdI L i e h a,ztd L hw (i+1)];by_cases b:L[i].kind=0
   ·rw [zcx L i h b];simp [b]
   ·rw [zbU L i h b a,List.getLast?_cons];cases hb:(zar L (i+1)).getLast? with
    | some k=>rfl
    | none =>
     by_cases h2:L[i].kind=108
     ·simp [h2,keyQ,zeH,ztc]
     ·have h5:L[i].kind=105:=by
       have:=hw.at i h;unfold Wf at this;omega
      simp [h5,keyQ,zeH]
 ·rw [zcL L i h,zhV L i e h];rfl
termination_by L.length-i
end
section
open Go.RowKit Sp
theorem zij(w:World)(b wb cap k:Nat)(lv bv iv ov:Value)(m:Mc)(x:ByteArray)(next:Int)(h:RefM w b lv bv iv ov m)(hat:m.at'=(k:Int))(hw:WdIn w wb [⟨#[99,97,108,108]⟩,x])(hf:m.frames=16):
  qC 89 #[.pointer (some ⟨b,0,none⟩),.slice (some ⟨wb,0,none⟩) 2 cap,.int .i64 next] w fun e w'=>e=.returned (.tuple #[.int .i64 (k:Int),.bool true])∧RefM w' b lv bv iv ov { m with fin:=4 }∧w.grownBy w' (some b):=by
 have f:=hw 0 (by simp);have d:=hw 1 (by simp);simp only [List.getElem_cons_zero,List.getElem_cons_succ] at f d;have a:=h.cAt;rw [hat] at a;have c:=h.cF;rw [hf] at c;have hce:=h.cE;have hfe:=h.fz 33;go_enter Tryz.func89,Tryz.ntmps89;go_wp2;go_ret2;exact⟨rfl,h.setE 4,zac (Below.refl _ _)⟩
theorem zjk(w:World)(b wb cap:Nat)(lv bv iv ov:Value)(m:Mc)(next:Int)(h:RefM w b lv bv iv ov m)(hw:WdIn w wb [⟨#[98,97,99,107]⟩])(hf:m.frames=1):
  qC 89 #[.pointer (some ⟨b,0,none⟩),.slice (some ⟨wb,0,none⟩) 1 cap,.int .i64 next] w fun e w'=>e=.returned (.tuple #[.int .i64 (-1),.bool true])∧RefM w' b lv bv iv ov { m with frames:=0,fin:=2 }∧w.grownBy w' (some b):=by
 have c:=hw 0 (by simp);simp only [List.getElem_cons_zero] at c;have a:=h.cF;rw [hf] at a;have hff:=h.fz 30;have hce:=h.cE;have hfe:=h.fz 33;go_enter Tryz.func89,Tryz.ntmps89;go_wp2;go_ret2;exact⟨rfl,(h.setF 0).setE 2,zae (zac (Below.refl _ _)) (zac (Below.refl _ _))⟩
theorem zkz(w:World)(b wb cap g c n f:Nat)(lv bv iv ov:Value)(m:Mc)(next to:Int)(l:List Int)(h:RefM w b lv bv iv ov m)(hw:WdIn w wb [⟨#[98,97,99,107]⟩])(hf:m.frames=(f:Int)+1)(hf0:0<f)(hf1:f≤16)(hbv:bv=.slice (some ⟨g,0,none⟩) (n+1) c)(hcg:w.cell? ⟨g,n,none⟩=some (.int .i64 to))(hgb:¬g=b)(hn:n≤16)(hc:n+1≤c):
  qC 89 #[.pointer (some ⟨b,0,none⟩),.slice (some ⟨wb,0,none⟩) 1 cap,.int .i64 next] w fun e w'=>e=.returned (.tuple #[.int .i64 to,.bool true])∧RefM w' b lv (.slice (some ⟨g,0,none⟩) n c) iv ov { m with frames:=m.frames-1,backs:=l }∧w.grownBy w' (some b):=by
 have q:=hw 0 (by simp);simp only [List.getElem_cons_zero] at q;have k:=h.cF;rw [hf] at k;have p:=h.fz 30;have d:=h.cB;rw [hbv] at d;have o:=h.fz 2;have hbg:¬b=g:=fun e=>hgb e.symm;have hz:((f:Int) == 0)=false:=by simp;omega
 have hw1:IntKind.i64.wrap (f:Int)=(f:Int):=zcH _ (by omega) (by omega);have hw2:IntKind.i64.wrap (n:Int)=(n:Int):=zcH _ (by omega) (by omega);have hn0:(0:Int)≤(n:Int):=by omega
 have hn1:(n:Int)<(n:Int)+1:=by omega
 have i:=h.setF (f:Int);have a:w.grownBy (w.setCell ⟨b,30,none⟩ (.int .i64 (f:Int))) (some b):=zac (Below.refl _ _);go_enter Tryz.func89,Tryz.ntmps89;go_wp2_with fail
 have j:(w.setCell ⟨b,30,none⟩ (.int .i64 (f:Int))).cell? ⟨g,n,none⟩=some (.int .i64 to):=(a.cell_far ⟨g,n,none⟩ (World.block_lt_of_cell? w _ hcg) (by simpa using hgb)).trans hcg;clear k p d o hcg q hw;generalize w.setCell ⟨b,30,none⟩ (.int .i64 (f:Int))=w1 at i a j ⊢;have d:=i.cB;rw [hbv] at d;go_quiet(fail)
 replace i:=i.drewN nq;replace a:w.grownBy (w1.drewN nq) (some b):=⟨a.os,a.tape,a.output,a.size,a.block⟩
 clear d j;generalize w1.drewN nq=w2 at i a ⊢;have d:=i.cB;rw [hbv] at d;have o:=i.fz 2;go_wp2_with fail
 refine zao 14 (by kernel_rfl) (by kernel_rfl) ?_;simp only [q2];repeat(go_big_quiet_step (fail))
 refine wpQuiet_nil ?_;rintro _ ⟨r,rfl⟩;go_wp2;go_ret2;have s:=(i.drewN r).setB (.slice (some ⟨g,0,none⟩) n c) l;have e:m.frames-1=(f:Int):=by omega
 rw [e];exact⟨rfl,s,zae a (zac (zaF _ _))⟩
theorem zvR(w:World)(b wb cap r s t:Nat)(lv bv iv ov:Value)(m:Mc)(x1 x2 x3:ByteArray)(h:RefM w b lv bv iv ov m)(hw:WdIn w wb [⟨#[109,117,108]⟩,x1,x2,x3])(_hne:¬wb=b)(hr:r<8)(hreg:reg x1=(r:Int))(hs:s<8)(hreg2:reg x2=(s:Int))(ht:t<8)(hreg3:reg x3=(t:Int))(hx1:x1.size≤1048576)(hx2:x2.size≤1048576)(hx3:x3.size≤1048576):
  qC 90 #[.pointer (some ⟨b,0,none⟩),.slice (some ⟨wb,0,none⟩) 4 cap] w fun e w'=>e=.returned (.tuple #[])∧RefM w' b lv bv iv ov { m with regs:=upd m.regs r (zby 2 (m.regs s) (m.regs t)) }∧w.grownBy w' (some b):=by
 have k:=hw 0 (by simp);have f:=hw 1 (by simp);have l:=hw 2 (by simp);have n:=hw 3 (by simp);simp only [List.getElem_cons_zero,List.getElem_cons_succ] at k f l n;have hcr:=h.cR r hr;have hfz:=h.fz (5+r);have hr0:(0:Int)≤(r:Int):=by omega
 have hr8:(r:Int)<8:=by omega
 have i:=zav x1 r hreg hx1;have hcs:=h.cR s hs;have hs0:(0:Int)≤(s:Int):=by omega
 have hs8:(s:Int)<8:=by omega
 have hct:=h.cR t ht;have ht0:(0:Int)≤(t:Int):=by omega
 have ht8:(t:Int)<8:=by omega
 have j:=zav x2 s hreg2 hx2;have g:=zav x3 t hreg3 hx3;have d:=fun W=>zqf (m.regs s) (m.regs t) W;generalize zby 2 (m.regs s) (m.regs t)=v at d ⊢;go_enter Tryz.func90,Tryz.ntmps90;go_wp2_with(first|(go_at_call 75;refine(i _).mono ?_;rintro e wx ⟨rfl,a⟩;have c:=a.symm;subst c))
 refine zao 30 (by kernel_rfl) (by kernel_rfl) ?_;simp only [q2];repeat(go_big_quiet_step (first|(go_at_call 111;exact Calls.quiet_of_same (d _))|(go_at_call_of 75 (Value.string x2);exact Calls.quiet_of_same (j _))|(go_at_call_of 75 (Value.string x3);exact Calls.quiet_of_same (g _))))
 refine wpQuiet_nil ?_;rintro _ ⟨nq,rfl⟩;go_wp2
 go_end0
 exact⟨rfl,(h.drewN nq).setR r hr _,zac (zaF _ _)⟩
theorem zwV(l r:Rg)(w:World):qC 276 #[rv l,rv r] w (zdR w l r (zeR l r)):=by
 have hb1:=zcz (max l.lo r.lo) (min l.hi r.hi);by_cases h:max l.lo r.lo≤min l.hi r.hi
 ·have b:zeR l r=some (⟨max l.lo r.lo,min l.hi r.hi⟩,⟨max l.lo r.lo,min l.hi r.hi⟩):=by unfold zeR;rw [if_pos h]
  rw [b];have a:=zgs w (.cells #[.int .i64 l.lo,.int .i64 l.hi] 213) (.cells #[.int .i64 r.lo,.int .i64 r.hi] 213) (.cells #[.int .i64 0,.int .i64 0] 213) (.cells #[.int .i64 0,.int .i64 0] 213) (max l.lo r.lo) (min l.hi r.hi);go_enter Tryz.func276,Tryz.ntmps276;go_wp2;go_region_held3 (fun W=>W.cell? ⟨w.heap.size+1+1+1+1,0,none⟩=some (.int .i64 (max l.lo r.lo))∧W.cell? ⟨w.heap.size+1+1+1+1,1,none⟩=some (.int .i64 (min l.hi r.hi)))
   (first|exact zgs _ _ _ _ _ _ _|go_keep)
   (fail)
  all_goals go_wp2
  all_goals exact zdS (l:=⟨max l.lo r.lo,min l.hi r.hi⟩) (r:=⟨max l.lo r.lo,min l.hi r.hi⟩) Tryz.results276 rfl rfl rfl rfl (zap box1 (zaL _ _ _ _ _ _ 0)) (zap box1 (zaL _ _ _ _ _ _ 1)) (zap box1 (zaA _ _ _ _ _ _ 0)) (zap box1 (zaA _ _ _ _ _ _ 1)) ⟨(zbL.alloc (by simp;omega) _).drew,rfl⟩
 ·have b:zeR l r=none:=by unfold zeR;rw [if_neg h]
  have hdec:decide (max l.lo r.lo≤min l.hi r.hi)=false:=by simpa using h
  rw [b];have a:=zgs w (.cells #[.int .i64 l.lo,.int .i64 l.hi] 213) (.cells #[.int .i64 r.lo,.int .i64 r.hi] 213) (.cells #[.int .i64 0,.int .i64 0] 213) (.cells #[.int .i64 0,.int .i64 0] 213) (max l.lo r.lo) (min l.hi r.hi);go_enter Tryz.func276,Tryz.ntmps276;go_wp2;go_region_held3 (fun W=>W.cell? ⟨w.heap.size+1+1+1+1,0,none⟩=some (.int .i64 (max l.lo r.lo))∧W.cell? ⟨w.heap.size+1+1+1+1,1,none⟩=some (.int .i64 (min l.hi r.hi)))
   (first|exact zgs _ _ _ _ _ _ _|go_keep)
   (fail)
  all_goals go_wp2
  all_goals exact zdS (l:=⟨max l.lo r.lo,min l.hi r.hi⟩) (r:=⟨max l.lo r.lo,min l.hi r.hi⟩) Tryz.results276 rfl rfl rfl rfl (zap box1 (zaL _ _ _ _ _ _ 0)) (zap box1 (zaL _ _ _ _ _ _ 1)) (zap box1 (zaA _ _ _ _ _ _ 0)) (zap box1 (zaA _ _ _ _ _ _ 1)) ⟨(zbL.alloc (by simp;omega) _).drew,_,_,by first|rfl|rw [hdec]⟩
def zbT(s:ByteArray)(R:Int × Int):Prop:=∀ w,LibW w→qC 44 #[.string s] w fun e w' =>
 qB w w'∧(R=(0,0)∧(∃ v,e=.returned v)∨¬R=(0,0)∧e=zak R.1 R.2)
theorem zxZ(s:ByteArray)(h:zbT s (0,0))(w:World)(hw:LibW w)(p:Addr)(hp:w.cell? p=some (.string s)):
  qC 43 #[.pointer (some p)] w (qR w (.tuple #[])):=by
 have c:=(h w hw).mono (R':=fun e b=>(∃ v,e=.returned v)∧qB w b) (by
  rintro e b ⟨a,⟨_,h⟩|⟨h,_⟩⟩
  ·exact⟨h,a⟩
  ·exact absurd rfl h)
 go_enter Tryz.func43,Tryz.ntmps43;go_wp2_with(go_at_call 44;refine c.mono ?_;rintro e w1 ⟨⟨v,rfl⟩,a⟩)
 go_end0
 exact⟨rfl,a⟩
theorem zya(s:ByteArray)(R:Int × Int)(hR:¬R=(0,0))(h:zbT s R)(w:World)(hw:LibW w)(p:Addr)(hp:w.cell? p=some (.string s)):
  qC 43 #[.pointer (some p)] w fun e w'=>e=zak R.1 R.2∧qB w w':=by
 have b:=(h w hw).mono (R':=fun e w'=>e=zak R.1 R.2∧qB w w') (by
  rintro e w' ⟨a,⟨h,_⟩|⟨_,h⟩⟩
  ·exact absurd h hR
  ·exact⟨h,a⟩)
 go_enter Tryz.func43,Tryz.ntmps43;go_wp2_with(go_at_call 44;refine b.mono ?_;rintro e w1 ⟨rfl,a⟩)
 exact⟨rfl,rfl,a⟩
theorem zq1(s:ByteArray)(h:zbT s (0,0))(w:World)(hw:LibW w)(p:Addr)(hp:w.cell? p=some (.string s)):
  qC 42 #[.func (.func 43) #[] #[.pointer (some p)]] w (qR w (.tuple #[.int .i64 0,.int .i64 0])):=by
 have hmf:∀(fn:Go.Fn) (first cap:Array Value) (w:World),(Instr.makeFunc fn first cap).run Tryz.prog w=.ok (.func fn first cap) w:=fun _ _ _ _=>rfl;have c:=World.block_lt_of_cell? w p hp;have g:LibW ((w.alloc (.cells #[.int .i64 0] 22)).alloc (.cells #[.int .i64 0] 3)):=hw.below (((Below.refl _ _).alloc (Nat.le_refl _) _).alloc (by simp) _);have i:((w.alloc (.cells #[.int .i64 0] 22)).alloc (.cells #[.int .i64 0] 3)).cell? p=some (.string s):=by
  rw [World.cell?_alloc_lt _ _ p (by simp;omega),World.cell?_alloc_lt _ _ p c];exact hp
 have a:=zxZ s h _ g p i
 go_enter_defers Tryz.func42,Tryz.ntmps42
 go_wp2_with(go_at_call 43;refine a.mono ?_;rintro e b ⟨rfl,j⟩;obtain⟨hc,hf⟩:=zdH j)
 have m:b.cell? ⟨w.heap.size,0,none⟩=some (.int .i64 0):=by rw [hc _ _ (by simp;omega)];simp
 have n:b.cell? ⟨w.heap.size+1,0,none⟩=some (.int .i64 0):=by rw [hc _ _ (by simp)];simp
 have l:((b.setCell ⟨w.heap.size,0,none⟩ (.int .i64 0)).setCell ⟨w.heap.size+1,0,none⟩ (.int .i64 0)).cell? ⟨w.heap.size,0,none⟩=some (.int .i64 0):=by
  rw [World.cell?_setCell_other]
  ·exact World.cell?_setCell_same b _ _ m
  ·simp
 have k:((b.setCell ⟨w.heap.size,0,none⟩ (.int .i64 0)).setCell ⟨w.heap.size+1,0,none⟩ (.int .i64 0)).cell? ⟨w.heap.size+1,0,none⟩=some (.int .i64 0):=by
  refine World.cell?_setCell_same (u:=.int .i64 0) _ _ _ ?_;rw [World.cell?_setCell_other]
  ·exact n
  ·simp
 have d:=((zhN _ _ _ j).setCell (p:=⟨w.heap.size,0,none⟩) (Nat.le_refl _) (.int .i64 0)).setCell (p:=⟨w.heap.size+1,0,none⟩) (Nat.le_succ _) (.int .i64 0);generalize (b.setCell ⟨w.heap.size,0,none⟩ (.int .i64 0)).setCell ⟨w.heap.size+1,0,none⟩ (.int .i64 0)=X at l k d ⊢;refine leaves_cons (f:=64) (args:=#[.pointer (some ⟨w.heap.size,0,none⟩),.pointer (some ⟨w.heap.size+1,0,none⟩)]) (by simp) (by simp [go_sem]) ?_;refine(zjt w.heap.size _).mono ?_;rintro e u' w'' ⟨rfl,rfl,rfl⟩;exact⟨.tuple #[.int .i64 0,.int .i64 0],by simp [results,Tryz.results42,go_sem,l,k],rfl,d⟩
theorem zq2(s:ByteArray)(R:Int × Int)(hR:¬R=(0,0))(h:zbT s R)(w:World)(hw:LibW w)(p:Addr)(hp:w.cell? p=some (.string s)):
  qC 42 #[.func (.func 43) #[] #[.pointer (some p)]] w (qR w (.tuple #[.int .i64 R.1,.int .i64 R.2])):=by
 have hmf:∀(fn:Go.Fn) (first cap:Array Value) (w:World),(Instr.makeFunc fn first cap).run Tryz.prog w=.ok (.func fn first cap) w:=fun _ _ _ _=>rfl;have b:=World.block_lt_of_cell? w p hp;have g:LibW ((w.alloc (.cells #[.int .i64 0] 22)).alloc (.cells #[.int .i64 0] 3)):=hw.below (((Below.refl _ _).alloc (Nat.le_refl _) _).alloc (by simp) _);have i:((w.alloc (.cells #[.int .i64 0] 22)).alloc (.cells #[.int .i64 0] 3)).cell? p=some (.string s):=by
  rw [World.cell?_alloc_lt _ _ p (by simp;omega),World.cell?_alloc_lt _ _ p b];exact hp
 have a:=zya s R hR h _ g p i
 go_enter_defers Tryz.func42,Tryz.ntmps42
 go_wp2_with(go_at_call 43;refine a.mono ?_;rintro e c ⟨rfl,j⟩;obtain⟨hc,hf⟩:=zdH j)
 have l:c.cell? ⟨w.heap.size,0,none⟩=some (.int .i64 0):=by rw [hc _ _ (by simp;omega)];simp
 have n:c.cell? ⟨w.heap.size+1,0,none⟩=some (.int .i64 0):=by rw [hc _ _ (by simp)];simp
 have m:c.frozen? ⟨w.heap.size,0,none⟩=false:=by rw [hf _ _ (by simp;omega)];simp
 have k:c.frozen? ⟨w.heap.size+1,0,none⟩=false:=by rw [hf _ _ (by simp)];simp
 refine leaves_cons (f:=64) (args:=#[.pointer (some ⟨w.heap.size,0,none⟩),.pointer (some ⟨w.heap.size+1,0,none⟩)]) (by simp) (by simp [go_sem]) ?_;refine(zfQ w.heap.size 0 0 R.1 R.2 _ l n m k).mono ?_;rintro e u' w'' ⟨rfl,rfl,d,q,o⟩;exact⟨.tuple #[.int .i64 R.1,.int .i64 R.2],by simp [results,Tryz.results42,go_sem,q,o],rfl,(zhN _ _ _ j).trans d⟩
theorem zny(s:ByteArray)(R:Int × Int)(h:zbT s R)(w:World)(hw:LibW w)(p:Addr)(hp:w.cell? p=some (.string s)):
  qC 42 #[.func (.func 43) #[] #[.pointer (some p)]] w (qR w (.tuple #[.int .i64 R.1,.int .i64 R.2])):=by
 by_cases a:R=(0,0)
 ·subst a;exact zq1 s h w hw p hp
 ·exact zq2 s R a h w hw p hp
theorem ztb(s:ByteArray)(R:Int × Int)(h:zbT s R)(w:World)(hw:LibW w):
  qC 15 #[.string s] w (qR w (.tuple #[.int .i64 R.1,.int .i64 R.2])):=by
 have hmf:∀(fn:Go.Fn) (first cap:Array Value) (w:World),(Instr.makeFunc fn first cap).run Tryz.prog w=.ok (.func fn first cap) w:=fun _ _ _ _=>rfl;have b:LibW (w.alloc (.cells #[.string s] 9)):=hw.below ((Below.refl _ _).alloc (Nat.le_refl _) _);have a:=zny s R h (w.alloc (.cells #[.string s] 9)) b ⟨w.heap.size,0,none⟩ (by simp);go_enter Tryz.func15,Tryz.ntmps15;go_wp2_with(go_at_call 42;refine a.mono ?_;rintro e w1 ⟨rfl,c⟩)
 go_ret2;exact⟨rfl,((Below.refl _ _).alloc (Nat.le_refl _) _).trans (c.mono (by simp))⟩
end
section
open Sp
def zdB(names labs:List ByteArray)(k:Key):Bool :=
 (zaJ k.word&&!labs.any (fun y=>eqW y k.nm))||(zc2 k.word&&!names.any (fun y=>eqW y k.nm))
def zaS(names labs:List ByteArray)(b:List Key):Option Int:=(b.find? (zdB names labs)).map Key.line
def zcX(names:List ByteArray):List Fn→Option Int
 | []=>none
 | f :: r=>match zaS names (zcl f.body) f.body with|some l=>some l|none=>zcX names r
def endK:List Fn→Option Int
 | []=>none
 | f :: r=>if zq3 f.body=true then endK r else some f.line
def zbg:List Fn→List Key→Option Int
 | _,[]=>none
 | F,k :: r=>if bad0 F k=true then some k.line else zbg (addK F k) r
def ze8(e:Int)(o:Option Int)(c:Int × Int):Int × Int:=match o with|some l=>(e,l)|none=>c
theorem zyb(L:List Said)(hw:WfAll L)(i:Nat)(c:Int × Int):pass L 2 i c=ze8 5 (endK (zbc L i)) c:=by
 by_cases h:i<L.length
 ·have a:badB L 2 i=(if L[i].kind=102 then !zep L (i+1) false else false):=by
   simp [badB,zbs,List.getElem?_eq_getElem h]
  by_cases b:L[i].kind=102
  ·rw [if_pos b,ztd L hw (i+1) false] at a;change badB L 2 i=!zq3 (zar L (i+1)) at a;rw [zcs L i h b];cases he:zq3 (zar L (i+1)) with
   | true =>
    rw [zcr L 2 i c h (by rw [a,he];rfl),zyb L hw (i+1) c];simp [endK,he]
   | false =>
    rw [zdy L 2 i c h (by rw [a,he];rfl)];simp [endK,he,ze8]
  ·rw [if_neg b] at a;rw [zcr L 2 i c h a,zce L i h b];exact zyb L hw (i+1) c
 ·rw [zdJ L 2 i c h,zdh L i h];rfl
termination_by L.length-i
def NmOk(L:List Said):Prop:=∀ q∈L,q.kind=105→(zaJ (q.word 0)=true∨zc2 (q.word 0)=true)→zdP q=q.last
theorem zin(x:ByteArray)(h:zaJ x=true):zc2 x=false:=by
 unfold zaJ isW at h;unfold zc2 isW;simp only [Bool.or_eq_true,beq_iff_eq] at h;rcases h with (h|h)|h <;> rw [h] <;> decide
theorem zl2:zaJ ⟨#[]⟩=false:=by simp [zaJ,isW,ByteArray.toList_eq]
theorem zn0:zc2 ⟨#[]⟩=false:=by simp [zc2,isW,ByteArray.toList_eq]
theorem zyc(L:List Said)(_hw:WfAll L)(hn:NmOk L)(names labs:List ByteArray)(i o:Nat)(h:i<L.length)(ho:zcw L i=(o:Int))
  (hN:∀ x,names.any (fun y=>eqW y x)=decide (0≤zaN L x 0)) (hL:∀ x,labs.any (fun y=>eqW y x)=decide (0≤zaY L x (o+1))) :
  badB L 1 i=zdB names labs (keyQ L[i] ((i:Int)+1)):=by
 have e:badB L 1 i=zaK L i:=by simp [badB]
 rw [e];unfold zaK;rw [List.getElem?_eq_getElem h];dsimp only;by_cases a:L[i].kind=105
 ·rw [if_pos a];have d:zcj L i L[i].last=zaY L L[i].last (o+1):=by
   unfold zcj;rw [ho];congr 1
  have f:zeH L[i]=L[i].word 0:=by simp [zeH,a]
  unfold zdB keyQ;dsimp only;rw [f,d,hN,hL];by_cases b:zaJ (L[i].word 0)=true
  ·rw [if_pos b,hn _ (List.getElem_mem h) a (.inl b),b,zin _ b];simp [←Int.not_le]
  ·rw [if_neg b];by_cases c:zc2 (L[i].word 0)=true
   ·rw [if_pos c,hn _ (List.getElem_mem h) a (.inr c),c];simp [b,←Int.not_le]
   ·rw [if_neg c];simp [b,c]
 ·rw [if_neg a];have f:zeH L[i]=⟨#[]⟩:=by simp [zeH,a]
  unfold zdB keyQ;dsimp only;rw [f,zl2,zn0];rfl
theorem zeK(names labs:List ByteArray)(k:Key)(b:List Key):zaS names labs (k :: b)=if zdB names labs k=true then some k.line else zaS names labs b:=by
 unfold zaS;rw [List.find?_cons];cases zdB names labs k <;> rfl
theorem zvT(L:List Said)(hw:WfAll L)(hn:NmOk L)(names:List ByteArray)(hN:∀ x,names.any (fun y=>eqW y x)=decide (0≤zaN L x 0))(c:Int × Int)(i o:Nat)(ho:zcw L i=(o:Int))(labs:List ByteArray)
  (hL:∀ x,labs.any (fun y=>eqW y x)=decide (0≤zaY L x (o+1))) :
  pass L 1 (i+1) c=ze8 4 (match zaS names labs (zar L (i+1)) with|some l=>some l|none=>zcX names (zbc L (i+1))) c:=by
 by_cases h:i+1<L.length
 ·by_cases b:L[i+1].kind=102
  ·have a:=zfX L (i+1) h b;have d:badB L 1 (i+1)=false:=by simp [badB,zaK,List.getElem?_eq_getElem h,b]
   rw [zcr L 1 (i+1) c h d,zdg L (i+1) h b,zcs L (i+1) h b,zvT L hw hn names hN c (i+1) (i+1) a (zcl (zar L (i+1+1))) (fun x=>zgi L (i+1+1) x)];rfl
  ·have a:zcw L (i+1)=(o:Int):=(zdY L i h b).trans ho;have d:=zyc L hw hn names labs (i+1) o h a hN hL;rw [zce L (i+1) h b];by_cases e:L[i+1].kind=0
   ·have d:badB L 1 (i+1)=false:=by simp [badB,zaK,List.getElem?_eq_getElem h,e]
    rw [zcr L 1 (i+1) c h d,zcx L (i+1) h e];exact zvT L hw hn names hN c (i+1) o a labs hL
   ·rw [zbU L (i+1) h e b,zeK];cases hk:zdB names labs (keyQ L[i+1] (((i+1:Nat):Int)+1)) with
    | true=>rw [zdy L 1 (i+1) c h (d.trans hk)];rfl
    | false =>
     rw [zcr L 1 (i+1) c h (d.trans hk)];exact zvT L hw hn names hN c (i+1) o a labs hL
 ·rw [zdJ L 1 (i+1) c h,zcL L _ h,zdh L _ h];rfl
termination_by L.length-i
end
end Go.Proofs.YtfpgjkbjbbgciaaGreatDoor
