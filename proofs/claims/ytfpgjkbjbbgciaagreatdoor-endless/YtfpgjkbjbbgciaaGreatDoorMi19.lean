import Derived.Test.YtfpgjkbjbbgciaaGreatDoorMi12
import Derived.Test.YtfpgjkbjbbgciaaGreatDoorMi16
set_option maxRecDepth 100000
set_option maxHeartbeats 8000000
namespace Go.Proofs.YtfpgjkbjbbgciaaGreatDoor
section
open Sp
structure Fn where
 name:ByteArray
 line:Int
 body:List Key
def labsOf(b:List Key):List ByteArray:=(b.filter (fun k=>decide (k.sort=1))).map Key.nm
def addK(F:List Fn)(k:Key):List Fn :=
 if k.sort=0 then F++[⟨k.nm,k.line,[]⟩]
 else match F.getLast? with
  | none=>F
  | some f=>F.dropLast++[⟨f.name,f.line,f.body++[k]⟩]
theorem zcw(F:List Fn)(k:Key)(h:k.sort=0):addK F k=F++[⟨k.nm,k.line,[]⟩]:=by simp [addK,h]
theorem zfT(F:List Fn)(f:Fn)(k:Key)(h:¬k.sort=0):addK (F++[f]) k=F++[⟨f.name,f.line,f.body++[k]⟩]:=by simp [addK,h]
def bad0(F:List Fn)(k:Key):Bool :=
 if k.sort=0 then(F.map Fn.name).any (fun y=>eqW y k.nm)
 else if k.sort=1 then(match F.getLast? with|none=>false|some f=>(labsOf f.body).any (fun y=>eqW y k.nm)) else false
def zan(L:List Said)(i:Nat):List Key :=
 if h:i<L.length then(if L[i].kind=102 then [] else if L[i].kind=0 then zan L (i+1) else keyQ L[i] ((i:Int)+1) :: zan L (i+1)) else []
termination_by L.length-i
def zaP(L:List Said)(i:Nat):List Fn :=
 if h:i<L.length then(if L[i].kind=102 then⟨L[i].word 1,(i:Int)+1,zan L (i+1)⟩ :: zaP L (i+1) else zaP L (i+1)) else []
termination_by L.length-i
def zbd(L:List Said)(i:Nat):List Key :=
 if h:i<L.length then(if L[i].kind=0 then zbd L (i+1) else keyQ L[i] ((i:Int)+1) :: zbd L (i+1)) else []
termination_by L.length-i
theorem zcx(L:List Said)(i:Nat)(h:¬i<L.length):zan L i=[]:=by rw [zan,dif_neg h]
theorem zcI(L:List Said)(i:Nat)(h:i<L.length)(h1:L[i].kind=102):zan L i=[]:=by rw [zan,dif_pos h,if_pos h1]
theorem zbY(L:List Said)(i:Nat)(h:i<L.length)(h0:L[i].kind=0):zan L i=zan L (i+1):=by rw [zan,dif_pos h,if_neg (by omega),if_pos h0]
theorem zb7(L:List Said)(i:Nat)(h:i<L.length)(h0:¬L[i].kind=0)(h1:¬L[i].kind=102):zan L i=keyQ L[i] ((i:Int)+1) :: zan L (i+1):=by rw [zan,dif_pos h,if_neg h1,if_neg h0]
theorem zcJ(L:List Said)(i:Nat)(h:¬i<L.length):zaP L i=[]:=by rw [zaP,dif_neg h]
theorem zbR(L:List Said)(i:Nat)(h:i<L.length)(h1:L[i].kind=102):zaP L i=⟨L[i].word 1,(i:Int)+1,zan L (i+1)⟩ :: zaP L (i+1):=by rw [zaP,dif_pos h,if_pos h1]
theorem zbH(L:List Said)(i:Nat)(h:i<L.length)(h1:¬L[i].kind=102):zaP L i=zaP L (i+1):=by rw [zaP,dif_pos h,if_neg h1]
theorem zcV(L:List Said)(i:Nat)(h:¬i<L.length):zbd L i=[]:=by rw [zbd,dif_neg h]
theorem zdh(L:List Said)(i:Nat)(h:i<L.length)(h0:L[i].kind=0):zbd L i=zbd L (i+1):=by rw [zbd,dif_pos h,if_pos h0]
theorem zbq(L:List Said)(i:Nat)(h:i<L.length)(h0:¬L[i].kind=0):zbd L i=keyQ L[i] ((i:Int)+1) :: zbd L (i+1):=by rw [zbd,dif_pos h,if_neg h0]
theorem zex(q:Said)(h:q.kind=102):zfv q=0:=by simp [zfv,h]
theorem zf0(q:Said)(h:q.kind=108):zfv q=1:=by simp [zfv,h]
theorem zey(q:Said)(h1:¬q.kind=102)(h2:¬q.kind=108):zfv q=2:=by simp [zfv,h1,h2]
theorem zf1(q:Said)(h1:¬q.kind=102):¬zfv q=0:=by unfold zfv;rw [if_neg h1];split <;> decide
theorem zg0(q:Said)(h:q.kind=102):zd5 q=q.word 1:=by simp [zd5,h]
theorem zko(q:Said)(h:q.kind=108):zd5 q=q.word 0:=by simp [zd5,h]
theorem zfU(L:List Said)(i:Nat)(F:List Fn)(f:Fn):(zbd L i).foldl addK (F++[f])=F++(⟨f.name,f.line,f.body++zan L i⟩ :: zaP L i):=by
 by_cases h:i<L.length
 ·by_cases h0:L[i].kind=0
  ·rw [zdh L i h h0,zbY L i h h0,zbH L i h (by omega)]
   exact zfU L (i+1) F f
  ·rw [zbq L i h h0,List.foldl_cons]
   by_cases h1:L[i].kind=102
   ·rw [zcw _ _ (zex _ h1),zfU L (i+1) (F++[f]) _,zcI L i h h1,zbR L i h h1]
    simp [keyQ,zg0 _ h1]
   ·rw [zfT _ _ _ (zf1 _ h1),zfU L (i+1) F _,zb7 L i h h0 h1,zbH L i h h1]
    simp
 ·rw [zcV L i h,zcx L i h,zcJ L i h]
  simp
termination_by L.length-i
theorem zii(A:List ByteArray)(i:Nat):zaU A A.length=zaU A (min i A.length)++zbd (A.map say) i:=by
 by_cases h:i<A.length
 ·have hL:i<(A.map say).length:=by simpa using h
  have hg:(A.map say)[i]=say A[i]:=by simp
  rw [zii A (i+1),Nat.min_eq_left (show i+1≤A.length from h),Nat.min_eq_left (Nat.le_of_lt h)]
  by_cases h0:(say A[i]).kind=0
  ·rw [zid A i h h0,zdh _ i hL (by rw [hg];exact h0)]
  ·rw [zj3 A i h h0,zbq _ i hL (by rw [hg];exact h0),hg]
   simp
 ·rw [zcV _ i (by simpa using h),Nat.min_eq_right (by omega)]
  simp
termination_by A.length-i
theorem zkp(A:List ByteArray):zaU A A.length=zbd (A.map say) 0:=by
 rw [zii A 0];simp [zaU]
theorem zfV(L:List Said)(i:Nat)(x:ByteArray):(labsOf (zan L i)).any (fun y=>eqW y x)=decide (0≤zaY L x i):=by
 by_cases h:i<L.length
 ·by_cases h1:L[i].kind=102
  ·rw [zcI L i h h1,zfK L x i h h1];rfl
  ·by_cases h0:L[i].kind=0
   ·rw [zbY L i h h0,zbF L x i h h1 (by simp [zcF,h0])]
    exact zfV L (i+1) x
   ·rw [zb7 L i h h0 h1]
    by_cases h2:L[i].kind=108
    ·have e:labsOf (keyQ L[i] ((i:Int)+1) :: zan L (i+1))=L[i].word 0 :: labsOf (zan L (i+1)):=by
      simp [labsOf,keyQ,zf0 _ h2,zko _ h2]
     rw [e,List.any_cons]
     by_cases h3:eqW (L[i].word 0) x=true
     ·rw [zcs L x i h h1 (by simp [zcF,h2,h3]),h3]
      simp
     ·rw [zbF L x i h h1 (by simp [zcF,h3]),zfV L (i+1) x]
      simp [h3]
    ·have e:labsOf (keyQ L[i] ((i:Int)+1) :: zan L (i+1))=labsOf (zan L (i+1)):=by
      simp [labsOf,keyQ,zey _ h1 h2]
     rw [e,zbF L x i h h1 (by simp [zcF,h2])]
     exact zfV L (i+1) x
 ·rw [zcx L i h,zdT L x i h];rfl
termination_by L.length-i
theorem znl(L:List Said)(i:Nat)(x:ByteArray):((zaP L i).map Fn.name).any (fun y=>eqW y x)=decide (0≤zb3 L x i):=by
 by_cases h:i<L.length
 ·by_cases h1:L[i].kind=102
  ·rw [zbR L i h h1,List.map_cons,List.any_cons]
   by_cases h3:eqW (L[i].word 1) x=true
   ·rw [zdg L x i h (by simp [isFn,h1,h3])]
    simp [h3]
   ·rw [zdl L x i h (by simp [isFn,h3]),znl L (i+1) x]
    simp [h3]
  ·rw [zbH L i h h1,zdl L x i h (by simp [isFn,h1])]
   exact znl L (i+1) x
 ·rw [zcJ L i h,zgu L x i h];rfl
termination_by L.length-i
def zqd(b:List Key):Bool:=match b.getLast? with|none=>false|some k=>ends k.word
theorem zst:ends ⟨#[]⟩=false:=by simp [ends,isW,ByteArray.toList_eq]
def WfAll(L:List Said):Prop:=∀ q∈L,Wf q
theorem WfAll.at{L:List Said}(hw:WfAll L)(i:Nat)(h:i<L.length):Wf L[i]:=hw _ (List.getElem_mem h)
theorem zsu(L:List Said)(hw:WfAll L)(i:Nat)(e:Bool):zfM L i e=(match (zan L i).getLast? with|none=>e|some k=>ends k.word):=by
 by_cases h:i<L.length
 ·by_cases h1:L[i].kind=102
  ·rw [zcI L i h h1,zmW L i e h h1];rfl
  ·rw [zeL L i e h h1,zsu L hw (i+1)]
   by_cases h0:L[i].kind=0
   ·rw [zbY L i h h0]
    simp [h0]
   ·rw [zb7 L i h h0 h1,List.getLast?_cons]
    cases hb:(zan L (i+1)).getLast? with
    | some k=>rfl
    | none =>
     by_cases h2:L[i].kind=108
     ·simp [h2,keyQ,zew,zst]
     ·have h5:L[i].kind=105:=by
       have:=hw.at i h
       unfold Wf at this;omega
      simp [h5,keyQ,zew]
 ·rw [zcx L i h,zhP L i e h];rfl
termination_by L.length-i
end
section
open Go.RowKit Sp
theorem ziG(w:World)(r o:Rg):TimesAt w ((((w.alloc (.cells #[.int .i64 r.lo,.int .i64 r.hi] 213)).alloc (.cells #[.int .i64 o.lo,.int .i64 o.hi] 213)).alloc (.cells #[.int .i64 0,.int .i64 0] 213)).alloc (.cells #[.int .i64 0,.int .i64 0,.int .i64 0,.int .i64 0] 304)) r o 0:=by
 have hs:((((w.alloc (.cells #[.int .i64 r.lo,.int .i64 r.hi] 213)).alloc (.cells #[.int .i64 o.lo,.int .i64 o.hi] 213)).alloc (.cells #[.int .i64 0,.int .i64 0] 213)).alloc (.cells #[.int .i64 0,.int .i64 0,.int .i64 0,.int .i64 0] 304)).heap.size=w.heap.size+1+1+1+1:=by simp
 refine⟨fun j hj=>?_,fun j=>World.frozen?_alloc_at _ _ _ _ (by simp),fun j hj=>?_,fun j=>(World.frozen?_alloc_past _ _ _ (by simp)).trans (zeT _ _ _ _ _ j),zb1,by omega,fun j hj=>by omega⟩
 ·rw [if_neg (by omega),zaz]
  match j,hj with
  | 0,_=>rfl
  | 1,_=>rfl
  | 2,_=>rfl
  | 3,_=>rfl
 ·rw [za6]
  match j,hj with
  | 0,_=>rfl
  | 1,_=>rfl
theorem zbu{w w':World}(hb:Below w.heap.size w w'){b j:Nat}(hlt:b<w.heap.size)(h:w.frozen? ⟨b,j,none⟩=false):w'.frozen? ⟨b,j,none⟩=false:=(World.frozen?_of_block (w:=w) (a:=⟨b,j,none⟩) (hb.block b hlt)).trans h
theorem zjU(x0 x1 x2 x3 x4 x5 x6 x7:Int)(W:World):(Instr.index 306 (.agg #[.int .i64 x0,.int .i64 x1,.int .i64 x2,.int .i64 x3,.int .i64 x4,.int .i64 x5,.int .i64 x6,.int .i64 x7]) (.int .i64 0)).run Tryz.prog W=.ok (.agg #[.int .i64 x0,.int .i64 x1]) W:=by kernel_rfl
theorem zjV(x0 x1 x2 x3 x4 x5 x6 x7:Int)(W:World):(Instr.index 306 (.agg #[.int .i64 x0,.int .i64 x1,.int .i64 x2,.int .i64 x3,.int .i64 x4,.int .i64 x5,.int .i64 x6,.int .i64 x7]) (.int .i64 1)).run Tryz.prog W=.ok (.agg #[.int .i64 x2,.int .i64 x3]) W:=by kernel_rfl
theorem zjW(x0 x1 x2 x3 x4 x5 x6 x7:Int)(W:World):(Instr.index 306 (.agg #[.int .i64 x0,.int .i64 x1,.int .i64 x2,.int .i64 x3,.int .i64 x4,.int .i64 x5,.int .i64 x6,.int .i64 x7]) (.int .i64 2)).run Tryz.prog W=.ok (.agg #[.int .i64 x4,.int .i64 x5]) W:=by kernel_rfl
theorem zjX(x0 x1 x2 x3 x4 x5 x6 x7:Int)(W:World):(Instr.index 306 (.agg #[.int .i64 x0,.int .i64 x1,.int .i64 x2,.int .i64 x3,.int .i64 x4,.int .i64 x5,.int .i64 x6,.int .i64 x7]) (.int .i64 3)).run Tryz.prog W=.ok (.agg #[.int .i64 x6,.int .i64 x7]) W:=by kernel_rfl
theorem zyy(a b c d:Int)(w:World)(hr:(⟨a,b⟩:Rg).Ok)(ho:(⟨c,d⟩:Rg).Ok)(hne:¬a=b):Calls Tryz.prog 245 #[rv (⟨a,b⟩:Rg),rv (⟨c,d⟩:Rg)] w fun e w'=>e=.returned (rv ((⟨a,b⟩:Rg).times (⟨c,d⟩:Rg)))∧Below w.heap.size w w':=by
 have hn1:¬((⟨a,b⟩:Rg).lo=(⟨a,b⟩:Rg).hi∧(⟨c,d⟩:Rg).lo=(⟨c,d⟩:Rg).hi):=fun h=>hne h.1
 have Z0:=ziG w (⟨a,b⟩:Rg) (⟨c,d⟩:Rg)
 have hb5:∀ a b W,(Instr.build 305 #[(0,.int .i64 a),(1,.int .i64 b)]).run Tryz.prog W=.ok (.agg #[.int .i64 a,.int .i64 b]) W:=fun a b W=>run_build W 305 _ _ (by kernel_rfl)
 have hb6:∀ a b c d W,(Instr.build 306 #[(0,.agg #[.int .i64 a,.int .i64 b]),(1,.agg #[.int .i64 a,.int .i64 d]),(2,.agg #[.int .i64 c,.int .i64 b]),(3,.agg #[.int .i64 c,.int .i64 d])]).run Tryz.prog W=.ok (.agg #[.int .i64 a,.int .i64 b,.int .i64 a,.int .i64 d,.int .i64 c,.int .i64 b,.int .i64 c,.int .i64 d]) W:=fun a b c d W=>run_build W 306 _ _ (by kernel_rfl)
 have hx0:=zjU
 have hx1:=zjV
 have hx2:=zjW
 have hx3:=zjX
 have t1:(a == b)=false:=by simpa using hne
 go_enter Tryz.func245,Tryz.ntmps245
 go_wp2
 change TimesAt w ((((w.alloc (.cells #[.int .i64 a,.int .i64 b] 213)).alloc (.cells #[.int .i64 c,.int .i64 d] 213)).alloc (.cells #[.int .i64 0,.int .i64 0] 213)).alloc (.cells #[.int .i64 0,.int .i64 0,.int .i64 0,.int .i64 0] 304)) _ _ _ at Z0
 generalize (((w.alloc (.cells #[.int .i64 a,.int .i64 b] 213)).alloc (.cells #[.int .i64 c,.int .i64 d] 213)).alloc (.cells #[.int .i64 0,.int .i64 0] 213)).alloc (.cells #[.int .i64 0,.int .i64 0,.int .i64 0,.int .i64 0] 304)=Ws at Z0
 go_loopw [47] (fun ti wr=>∃ k:Nat,k≤4∧ti=.int .i64 (k:Int)∧TimesAt w wr (⟨a,b⟩:Rg) (⟨c,d⟩:Rg) k) (fun ti _=>4-(intOf ti).toNat)
 case atStart=>exact⟨0,by omega,rfl,Z0⟩
 case round =>
  obtain⟨k,hk,rfl,Z⟩:=hrel
  by_cases hlt:k<4
  ·have hcase:k=0∨k=1∨k=2∨k=3:=by omega
   have hany:=ziz
   rcases hcase with rfl|rfl|rfl|rfl
   ·have hwr:=fun W=>zcW a c W
    have Z1:=Z.alloc (.cells #[.int .i64 a,.int .i64 c] 305)
    have cc:=Z1.cells 0 (by omega)
    have cf:=Z1.fz 0
    cases hwq:zbz a c with
    | true =>
     have e0:=zbS (r:=(⟨a,b⟩:Rg)) (o:=(⟨c,d⟩:Rg)) hn1 (k:=0) (by omega) hwq
     rw [hwq] at hwr
     have r0:=Z1.res 0 (by omega)
     have r1:=Z1.res 1 (by omega)
     have z0:=Z1.rz 0
     have z1:=Z1.rz 1
     have hlw:=Z1.low
     have hsz:=Z1.size
     clear Z Z1 cc cf
     go_wp2_with(first|(go_at_call 246;(with_reducible refine(hwr _).mono ?_);rintro e wx ⟨rfl,hww⟩;have h2:=hww.symm;subst h2)|(go_at_call 238;(with_reducible refine(hany _).mono ?_);rintro e w4 ⟨rfl,hb4⟩;have d0:=za3 hb4 r0;have d1:=za3 hb4 r1;have g0:=zbu hb4 (by omega) z0;have g1:=zbu hb4 (by omega) z1))
     exact zb0 (r:=anyR) Tryz.results245 rfl rfl (zap d0 d1).1 (zap d0 d1).2 ⟨by rw [e0],zat (hlw.trans (hb4.mono hlw.size)) (by omega)⟩
    | false =>
     rw [hwq] at hwr
     have Z2:=Z1.put (by omega) hwq
     clear Z
     go_wp2_with(go_at_call 246;(with_reducible refine(hwr _).mono ?_);rintro e wx ⟨rfl,hww⟩;have h2:=hww.symm;subst h2)
     go_roundw
     case rel=>exact⟨1,by omega,rfl,Z2⟩
     case measure=>simp [intOf]
   ·have hwr:=fun W=>zcW a d W
    have Z1:=Z.alloc (.cells #[.int .i64 a,.int .i64 d] 305)
    have cc:=Z1.cells 1 (by omega)
    have cf:=Z1.fz 1
    cases hwq:zbz a d with
    | true =>
     have e0:=zbS (r:=(⟨a,b⟩:Rg)) (o:=(⟨c,d⟩:Rg)) hn1 (k:=1) (by omega) hwq
     rw [hwq] at hwr
     have r0:=Z1.res 0 (by omega)
     have r1:=Z1.res 1 (by omega)
     have z0:=Z1.rz 0
     have z1:=Z1.rz 1
     have hlw:=Z1.low
     have hsz:=Z1.size
     clear Z Z1 cc cf
     go_wp2_with(first|(go_at_call 246;(with_reducible refine(hwr _).mono ?_);rintro e wx ⟨rfl,hww⟩;have h2:=hww.symm;subst h2)|(go_at_call 238;(with_reducible refine(hany _).mono ?_);rintro e w4 ⟨rfl,hb4⟩;have d0:=za3 hb4 r0;have d1:=za3 hb4 r1;have g0:=zbu hb4 (by omega) z0;have g1:=zbu hb4 (by omega) z1))
     exact zb0 (r:=anyR) Tryz.results245 rfl rfl (zap d0 d1).1 (zap d0 d1).2 ⟨by rw [e0],zat (hlw.trans (hb4.mono hlw.size)) (by omega)⟩
    | false =>
     rw [hwq] at hwr
     have Z2:=Z1.put (by omega) hwq
     clear Z
     go_wp2_with(go_at_call 246;(with_reducible refine(hwr _).mono ?_);rintro e wx ⟨rfl,hww⟩;have h2:=hww.symm;subst h2)
     go_roundw
     case rel=>exact⟨2,by omega,rfl,Z2⟩
     case measure=>simp [intOf]
   ·have hwr:=fun W=>zcW b c W
    have Z1:=Z.alloc (.cells #[.int .i64 b,.int .i64 c] 305)
    have cc:=Z1.cells 2 (by omega)
    have cf:=Z1.fz 2
    cases hwq:zbz b c with
    | true =>
     have e0:=zbS (r:=(⟨a,b⟩:Rg)) (o:=(⟨c,d⟩:Rg)) hn1 (k:=2) (by omega) hwq
     rw [hwq] at hwr
     have r0:=Z1.res 0 (by omega)
     have r1:=Z1.res 1 (by omega)
     have z0:=Z1.rz 0
     have z1:=Z1.rz 1
     have hlw:=Z1.low
     have hsz:=Z1.size
     clear Z Z1 cc cf
     go_wp2_with(first|(go_at_call 246;(with_reducible refine(hwr _).mono ?_);rintro e wx ⟨rfl,hww⟩;have h2:=hww.symm;subst h2)|(go_at_call 238;(with_reducible refine(hany _).mono ?_);rintro e w4 ⟨rfl,hb4⟩;have d0:=za3 hb4 r0;have d1:=za3 hb4 r1;have g0:=zbu hb4 (by omega) z0;have g1:=zbu hb4 (by omega) z1))
     exact zb0 (r:=anyR) Tryz.results245 rfl rfl (zap d0 d1).1 (zap d0 d1).2 ⟨by rw [e0],zat (hlw.trans (hb4.mono hlw.size)) (by omega)⟩
    | false =>
     rw [hwq] at hwr
     have Z2:=Z1.put (by omega) hwq
     clear Z
     go_wp2_with(go_at_call 246;(with_reducible refine(hwr _).mono ?_);rintro e wx ⟨rfl,hww⟩;have h2:=hww.symm;subst h2)
     go_roundw
     case rel=>exact⟨3,by omega,rfl,Z2⟩
     case measure=>simp [intOf]
   ·have hwr:=fun W=>zcW b d W
    have Z1:=Z.alloc (.cells #[.int .i64 b,.int .i64 d] 305)
    have cc:=Z1.cells 3 (by omega)
    have cf:=Z1.fz 3
    cases hwq:zbz b d with
    | true =>
     have e0:=zbS (r:=(⟨a,b⟩:Rg)) (o:=(⟨c,d⟩:Rg)) hn1 (k:=3) (by omega) hwq
     rw [hwq] at hwr
     have r0:=Z1.res 0 (by omega)
     have r1:=Z1.res 1 (by omega)
     have z0:=Z1.rz 0
     have z1:=Z1.rz 1
     have hlw:=Z1.low
     have hsz:=Z1.size
     clear Z Z1 cc cf
     go_wp2_with(first|(go_at_call 246;(with_reducible refine(hwr _).mono ?_);rintro e wx ⟨rfl,hww⟩;have h2:=hww.symm;subst h2)|(go_at_call 238;(with_reducible refine(hany _).mono ?_);rintro e w4 ⟨rfl,hb4⟩;have d0:=za3 hb4 r0;have d1:=za3 hb4 r1;have g0:=zbu hb4 (by omega) z0;have g1:=zbu hb4 (by omega) z1))
     exact zb0 (r:=anyR) Tryz.results245 rfl rfl (zap d0 d1).1 (zap d0 d1).2 ⟨by rw [e0],zat (hlw.trans (hb4.mono hlw.size)) (by omega)⟩
    | false =>
     rw [hwq] at hwr
     have Z2:=Z1.put (by omega) hwq
     clear Z
     go_wp2_with(go_at_call 246;(with_reducible refine(hwr _).mono ?_);rintro e wx ⟨rfl,hww⟩;have h2:=hww.symm;subst h2)
     go_roundw
     case rel=>exact⟨4,by omega,rfl,Z2⟩
     case measure=>simp [intOf]
  ·obtain rfl:k=4:=by omega
   have e0:=ziF hr ho hn1 Z.no
   have q0:wr.cell? ⟨w.heap.size+1+1+1,0,none⟩=some (.int .i64 (wrap64 (a*c))):=Z.cells 0 (by omega)
   have q1:wr.cell? ⟨w.heap.size+1+1+1,1,none⟩=some (.int .i64 (wrap64 (a*d))):=Z.cells 1 (by omega)
   have q2:wr.cell? ⟨w.heap.size+1+1+1,2,none⟩=some (.int .i64 (wrap64 (b*c))):=Z.cells 2 (by omega)
   have q3:wr.cell? ⟨w.heap.size+1+1+1,3,none⟩=some (.int .i64 (wrap64 (b*d))):=Z.cells 3 (by omega)
   have hcs:∀ j (h:j<[wrap64 (a*c),wrap64 (a*d),wrap64 (b*c),wrap64 (b*d)].length),wr.cell? ⟨w.heap.size+1+1+1,j,none⟩=some (.int .i64 [wrap64 (a*c),wrap64 (a*d),wrap64 (b*c),wrap64 (b*d)][j]):=fun j hj=>by
    match j,hj with
    | 0,_=>exact q0
    | 1,_=>exact q1
    | 2,_=>exact q2
    | 3,_=>exact q3
   have hmin:Calls Tryz.prog 247 #[.slice (some ⟨w.heap.size+1+1+1,0,none⟩) 4 4] wr.drew fun e w'=>e=.returned (.int .i64 (zfA [wrap64 (a*c),wrap64 (a*d),wrap64 (b*c),wrap64 (b*d)] 3))∧w'=wr.drew:=zpv wr.drew (w.heap.size+1+1+1) 4 [wrap64 (a*c),wrap64 (a*d),wrap64 (b*c),wrap64 (b*d)] (by simp) (by simp) hcs
   have hmax:Calls Tryz.prog 248 #[.slice (some ⟨w.heap.size+1+1+1,0,none⟩) 4 4] wr.drew fun e w'=>e=.returned (.int .i64 (zfB [wrap64 (a*c),wrap64 (a*d),wrap64 (b*c),wrap64 (b*d)] 3))∧w'=wr.drew:=zpw wr.drew (w.heap.size+1+1+1) 4 [wrap64 (a*c),wrap64 (a*d),wrap64 (b*c),wrap64 (b*d)] (by simp) (by simp) hcs
   have r0:=Z.res 0 (by omega)
   have r1:=Z.res 1 (by omega)
   have z0:=Z.rz 0
   have z1:=Z.rz 1
   have hlw:=Z.low
   have hbd:=zca (zfA [wrap64 (a*c),wrap64 (a*d),wrap64 (b*c),wrap64 (b*d)] 3) (zfB [wrap64 (a*c),wrap64 (a*d),wrap64 (b*c),wrap64 (b*d)] 3)
   clear Z hcs q0 q1 q2 q3
   generalize zfA [wrap64 (a*c),wrap64 (a*d),wrap64 (b*c),wrap64 (b*d)] 3=x at hmin hbd e0
   generalize zfB [wrap64 (a*c),wrap64 (a*d),wrap64 (b*c),wrap64 (b*d)] 3=y at hmax hbd e0
   go_wp2
   go_region_held3 (fun _=>True)
    (trivial)
    (first|(go_at_call 247;(with_reducible refine hmin.mono ?_);rintro e wx ⟨rfl,hww⟩;have h2:=hww.symm;subst h2)|(go_at_call 248;(with_reducible refine hmax.mono ?_);rintro e wx ⟨rfl,hww⟩;have h2:=hww.symm;subst h2))
   go_wp2
   exact zb0 (r:=⟨x,y⟩) Tryz.results245 rfl rfl (zap (X:=wr.drew) r0 r1).1 (zap (X:=wr.drew) r0 r1).2 ⟨by rw [e0],zat hlw.drew (by omega)⟩
structure FnM where
 name:ByteArray
 line:Int
 its:List It
 bv:Value
 m:Nat
abbrev FnM.cells(f:FnM):List Value:=[.string f.name,.int .i64 f.line,f.bv,.map (some f.m)]
def zct(F:List FnM):List Value:=F.flatMap FnM.cells
def zal(l:List It):List It:=l.filter (fun i=>!decide (i.sort=1))
theorem zlv(l:List It)(i:It)(h:¬i.sort=1):zal (l++[i])=zal l++[i]:=by simp [zal,List.filter_append,h]
theorem zlw(l:List It)(i:It)(h:i.sort=1):zal (l++[i])=zal l:=by simp [zal,List.filter_append,h]
theorem zdJ(l:List It):(zal l).length≤l.length:=List.length_filter_le _ _
def zbi:Nat→List It→List (ByteArray × Nat)
 | _,[]=>[]
 | n,i :: r=>if i.sort=1 then(i.nm,n) :: zbi n r else zbi (n+1) r
abbrev zcm(l:List It):List (ByteArray × Nat):=zbi 0 l
theorem zbZ(n:Nat)(i:It)(r:List It):zbi n (i :: r)=if i.sort=1 then(i.nm,n) :: zbi n r else zbi (n+1) r:=rfl
theorem ze0(n:Nat)(l r:List It):zbi n (l++r)=zbi n l++zbi (n+(zal l).length) r:=by
 induction l generalizing n with
 | nil=>simp [zbi,zal]
 | cons i l ih =>
  rw [List.cons_append,zbZ,zbZ]
  by_cases h:i.sort=1
  ·rw [if_pos h,if_pos h,ih n,show zal (i :: l)=zal l by simp [zal,h]]
   rfl
  ·rw [if_neg h,if_neg h,ih (n+1),show zal (i :: l)=i :: zal l by simp [zal,h]]
   rw [show n+1+(zal l).length=n+(i :: zal l).length by simp;omega]
theorem zj9(l:List It)(i:It)(h:i.sort=1):zcm (l++[i])=zcm l++[(i.nm,(zal l).length)]:=by
 unfold zcm;rw [ze0];simp [zbi,h]
theorem zjA(l:List It)(i:It)(h:¬i.sort=1):zcm (l++[i])=zcm l:=by
 unfold zcm;rw [ze0];simp [zbi,h]
theorem zd6(n:Nat)(l:List It):zbx (zbi n l)=labsOf (l.map It.key):=by
 induction l generalizing n with
 | nil=>rfl
 | cons i l ih =>
  rw [zbZ]
  by_cases h:i.sort=1
  ·rw [if_pos h]
   have:=ih n
   simp only [zbx] at this ⊢
   simp [labsOf,It.key,h] at this ⊢
   exact this
  ·rw [if_neg h]
   have:=ih (n+1)
   simp only [zbx] at this ⊢
   simp [labsOf,It.key,h] at this ⊢
   exact this
def zaM:Nat→List FnM→List (ByteArray × Nat)
 | _,[]=>[]
 | n,f :: r=>(f.name,n) :: zaM (n+1) r
abbrev zbj(F:List FnM):List (ByteArray × Nat):=zaM 0 F
theorem zdo(n:Nat)(f:FnM)(r:List FnM):zaM n (f :: r)=(f.name,n) :: zaM (n+1) r:=rfl
theorem zg3(n:Nat)(F G:List FnM):zaM n (F++G)=zaM n F++zaM (n+F.length) G:=by
 induction F generalizing n with
 | nil=>simp [zaM]
 | cons f F ih =>
  rw [List.cons_append,zdo,zdo,ih (n+1),show n+1+F.length=n+(f :: F).length by simp;omega]
  rfl
theorem zeb(F:List FnM)(f:FnM):zbj (F++[f])=zbj F++[(f.name,F.length)]:=by
 unfold zbj;rw [zg3];simp [zaM]
theorem zcp(n:Nat)(F:List FnM):zbx (zaM n F)=F.map FnM.name:=by
 induction F generalizing n with
 | nil=>rfl
 | cons f F ih =>
  have:=ih (n+1)
  simp only [zbx,zaM,List.map_cons] at this ⊢
  rw [this]
theorem zlx(F:List FnM):(zbj F).length=F.length:=by
 have:=congrArg List.length (zcp 0 F)
 simpa [zbx] using this
def FnM.fn(f:FnM):Fn:=⟨f.name,f.line,f.its.map It.key⟩
theorem zil(F:List FnM):(zct F).length=F.length*4:=by
 induction F with
 | nil=>rfl
 | cons i l ih=>simp [zct] at ih ⊢;omega
theorem zd0(F:List FnM)(f:FnM):zct (F++[f])=zct F++f.cells:=by simp [zct]
theorem zjB(F:List FnM)(k:Nat)(h:k<F.length)(j:Nat)(hj:j<4):(zct F)[k*4+j]?=F[k].cells[j]?:=by
 induction F generalizing k with
 | nil=>simp at h
 | cons i l ih =>
  have e:zct (i :: l)=i.cells++zct l:=by simp [zct]
  rw [e]
  cases k with
  | zero =>
   rw [List.getElem?_append_left (by simp;omega)]
   simp
  | succ k =>
   rw [List.getElem?_append_right (by simp;omega)]
   have:=ih k (by simpa using h)
   simp only [List.getElem_cons_succ]
   rw [←this]
   congr 1
   simp;omega
theorem znr(F:List FnM)(f:FnM)(its:List It)(u:Value):(zct (F++[f])).set (F.length*4+2) u=zct (F++[⟨f.name,f.line,its,u,f.m⟩]):=by
 rw [zd0,zd0,List.set_append_right _ _ (by rw [zil];omega),zil]
 rw [show F.length*4+2-F.length*4=2 by omega]
 rfl
theorem MapIs.of_block{w w':World}{b:Nat}{E:List (ByteArray × Nat)}(h:MapIs w b E)(e:w'.heap[b]?=w.heap[b]?):MapIs w' b E:=by
 obtain⟨D,⟨es,clock,hh,r⟩,h2⟩:=h
 exact⟨D,⟨es,clock,e.trans hh,r⟩,h2⟩
theorem zbK{w:World}{B:Nat}{e:TypeId}{size n:Nat}{v:Value}{xs:List Value}(h:w.ownsRow B e size v n xs){g:Nat}(hg:v.ownBlock=some g):∃ cur,w.heap[g]?=some (.cells cur e (0,0)):=by
 rcases h.2 with ⟨hv,_⟩|⟨g',cap,cur,hv,_,hh,_⟩
 ·rw [hv] at hg;cases hg
 ·rw [hv] at hg
  have:g'=g:=by simpa [Value.ownBlock] using hg
  subst this
  exact⟨cur,hh⟩
theorem ze1{w:World}{b:Nat}{E:List (ByteArray × Nat)}(h:MapIs w b E):∃ es c,w.heap[b]?=some (.map es c):=by
 obtain⟨D,⟨es,clock,hh,r⟩,_⟩:=h
 exact⟨es,clock,hh⟩
structure PIn(B:Nat)(w:World)(pm:Nat)(v:Value)(F:List FnM):Prop where
 row:w.ownsRow B 131 4 v F.length (zct F)
 bodies:∀ f∈F,w.ownsRow B 135 8 f.bv (zal f.its).length (zav (zal f.its))
 labels:∀ f∈F,MapIs w f.m (zcm f.its)
 places:MapIs w pm (zbj F)
 lowm:∀ f∈F,B≤f.m
 lowp:B≤pm
 pmNot:∀ f∈F,¬f.m=pm
 maps:F.Pairwise (fun a b=>¬a.m=b.m)
 rows:F.Pairwise (fun a b=>∀ g,a.bv.ownBlock=some g→¬b.bv.ownBlock=some g)
theorem PIn.of_blocks{B:Nat}{w w':World}{pm:Nat}{v:Value}{F:List FnM}(h:PIn B w pm v F)(hb:∀ b,B≤b→b<w.heap.size→w'.heap[b]?=w.heap[b]?):PIn B w' pm v F:=by
 refine⟨zaj h.row fun g hg=>?_,fun f hf=>zaj (h.bodies f hf) fun g hg=>?_,fun f hf=>(h.labels f hf).of_block (hb _ (h.lowm f hf) (h.labels f hf).lt),h.places.of_block (hb _ h.lowp h.places.lt),h.lowm,h.lowp,h.pmNot,h.maps,h.rows⟩
 ·have:=h.row.lt g hg;exact hb g this.1 this.2
 ·have:=(h.bodies f hf).lt g hg;exact hb g this.1 this.2
theorem PIn.start(B:Nat)(w:World)(pm:Nat)(hM:MapIs w pm [])(hB:B≤pm):PIn B w pm (.slice none 0 0) [] :=
 ⟨World.ownsRow_nil _ _ _ _,by simp,by simp,hM,by simp,hB,by simp,by simp,by simp⟩
theorem PIn.added{B:Nat}{w w1:World}{pm:Nat}{F:List FnM}{f:FnM}{i:It}{fg cap0 g cap:Nat}
  (h:PIn B w pm (.slice (some ⟨fg,0,none⟩) (F.length+1) cap0) (F++[f]))
  (hi:¬i.sort=1) (h3:w.grownBy w1 f.bv.ownBlock)
  (h4:w1.ownsRow B 135 8 (.slice (some ⟨g,0,none⟩) ((zal f.its).length+1) cap) ((zal f.its).length+1) (zav (zal f.its++[i]))) (hat:f.bv.ownBlock=some g∨w.heap.size≤g) :
  PIn B (w1.setCell ⟨fg,F.length*4+2,none⟩ (.slice (some ⟨g,0,none⟩) ((zal f.its).length+1) cap)) pm (.slice (some ⟨fg,0,none⟩) (F.length+1) cap0) (F++[⟨f.name,f.line,f.its++[i],.slice (some ⟨g,0,none⟩) ((zal f.its).length+1) cap,f.m⟩]) ∧
  Below B w (w1.setCell ⟨fg,F.length*4+2,none⟩ (.slice (some ⟨g,0,none⟩) ((zal f.its).length+1) cap)) ∧
  (∀(p:Nat) (cs:Array Value),w.heap[p]?=some (Obj.cells cs 83 (0,0))→(w1.setCell ⟨fg,F.length*4+2,none⟩ (.slice (some ⟨g,0,none⟩) ((zal f.its).length+1) cap)).heap[p]?=some (Obj.cells cs 83 (0,0))):=by
 have hmem:f∈F++[f]:=by simp
 have hrow:=h.row
 have hlen:(F++[f]).length=F.length+1:=by simp
 rw [hlen] at hrow
 obtain⟨cr,hcr⟩:=zbK hrow (g:=fg) rfl
 obtain⟨em,cm,hem⟩:=ze1 (h.labels f hmem)
 have hfgl:fg<w.heap.size:=(Array.getElem?_eq_some_iff.1 hcr).1
 have hml:f.m<w.heap.size:=(h.labels f hmem).lt
 have n1:¬fg=f.m:=by intro e;rw [e,hem] at hcr;cases hcr
 have n2:¬f.bv.ownBlock=some fg:=by
  intro e
  obtain⟨c2,hc2⟩:=zbK (h.bodies f hmem) e
  rw [hc2] at hcr;simp at hcr
 have n3:¬f.bv.ownBlock=some f.m:=by
  intro e
  obtain⟨c2,hc2⟩:=zbK (h.bodies f hmem) e
  rw [hem] at hc2;cases hc2
 have fr:∀ b,b<w.heap.size→¬f.bv.ownBlock=some b→¬b=fg→(w1.setCell ⟨fg,F.length*4+2,none⟩ (.slice (some ⟨g,0,none⟩) ((zal f.its).length+1) cap)).heap[b]?=w.heap[b]?:=by
  intro b hb hb2 hb3
  rw [Below.heap_setCell _ _ _ _ (by exact hb3),h3.block b hb (fun e=>hb2 e.symm)]
 have hgfg:¬g=fg:=by
  rcases hat with e|e
  ·intro e2;rw [e2] at e;exact n2 e
  ·omega
 refine⟨⟨?_,?_,?_,?_,?_,h.lowp,?_,?_,?_⟩,?_,?_⟩
 ·have a2:=hrow.kept h3 (.inr (by simp only [Value.ownBlock];exact fun e=>n2 e.symm))
  have a3:=(World.ownsRow.stored a2 (F.length*4+2) (.slice (some ⟨g,0,none⟩) ((zal f.its).length+1) cap)).1
  rw [znr F f (f.its++[i])] at a3
  simpa using a3
 ·intro f' hf'
  rw [List.mem_append] at hf'
  rcases hf' with hf'|hf'
  ·have hb':=h.bodies f' (by simp [hf'])
   refine zaj hb' fun b hb=>?_
   obtain⟨c2,hc2⟩:=zbK hb' hb
   refine fr b (hb'.lt b hb).2 ?_ ?_
   ·exact(List.pairwise_append.1 h.rows).2.2 f' hf' f (by simp) b hb
   ·intro e;rw [e,hcr] at hc2;simp at hc2
  ·simp at hf';subst hf'
   have e:(zal f.its++[i]).length=(zal f.its).length+1:=by simp
   show World.ownsRow _ B 135 8 _ (zal (f.its++[i])).length (zav (zal (f.its++[i])))
   rw [zlv _ _ hi,e]
   exact zaj h4 fun b hb=>by
    have:g=b:=by simpa [Value.ownBlock] using hb
    subst this
    exact Below.heap_setCell _ _ _ _ (by exact hgfg)
 ·intro f' hf'
  rw [List.mem_append] at hf'
  rcases hf' with hf'|hf'
  ·have hb':=h.labels f' (by simp [hf'])
   obtain⟨e2,c2,hc2⟩:=ze1 hb'
   refine hb'.of_block (fr _ hb'.lt ?_ ?_)
   ·intro e
    obtain⟨c3,hc3⟩:=zbK (h.bodies f hmem) e
    rw [hc2] at hc3;cases hc3
   ·intro e;rw [e,hcr] at hc2;cases hc2
  ·simp at hf';subst hf'
   have a0:MapIs w f.m (zcm (f.its++[i])):=by rw [zjA _ _ hi];exact h.labels f hmem
   have a1:=a0.kept h3 (fun e=>n3 e.symm)
   exact a1.of_block (Below.heap_setCell _ _ _ _ (fun e=>n1 e.symm))
 ·have hp:=h.places
  obtain⟨e2,c2,hc2⟩:=ze1 hp
  have:=hp.of_block (fr _ hp.lt (by
   intro e
   obtain⟨c3,hc3⟩:=zbK (h.bodies f hmem) e
   rw [hc2] at hc3;cases hc3) (by intro e;rw [e,hcr] at hc2;cases hc2))
  rw [zeb] at this ⊢
  exact this
 ·intro f' hf'
  rw [List.mem_append] at hf'
  rcases hf' with hf'|hf'
  ·exact h.lowm f' (by simp [hf'])
  ·simp at hf';subst hf';exact h.lowm f hmem
 ·intro f' hf'
  rw [List.mem_append] at hf'
  rcases hf' with hf'|hf'
  ·exact h.pmNot f' (by simp [hf'])
  ·simp at hf';subst hf';exact h.pmNot f hmem
 ·have:=List.pairwise_append.1 h.maps
  refine List.pairwise_append.2 ⟨this.1,by simp,fun a ha b hb=>?_⟩
  simp at hb;subst hb
  exact this.2.2 a ha f (by simp)
 ·have:=List.pairwise_append.1 h.rows
  refine List.pairwise_append.2 ⟨this.1,by simp,fun a ha b hb b' hb'=>?_⟩
  simp at hb;subst hb
  simp only [Value.ownBlock,Option.some.injEq]
  intro e
  subst e
  rcases hat with e|e
  ·exact this.2.2 a ha f (by simp) g hb' e
  ·have:=((h.bodies a (by simp [ha])).lt g hb').2;omega
 ·have b2:Below B w w1:=(Below.refl B w).grown h3 (by have:=h.lowm f hmem;omega) (fun k e=>((h.bodies f hmem).lt k e).1)
  exact b2.setCell (hrow.lt fg rfl).1 _
 ·intro p cs hp
  rw [fr p ((Array.getElem?_eq_some_iff.1 hp).1) (by
   intro e
   obtain⟨c3,hc3⟩:=zbK (h.bodies f hmem) e
   rw [hp] at hc3;simp at hc3) (by intro e;rw [e,hcr] at hp;simp at hp)]
  exact hp
theorem PIn.labelled{B:Nat}{w w2:World}{pm:Nat}{v:Value}{F:List FnM}{f:FnM}{i:It}(h:PIn B w pm v (F++[f]))(hi:i.sort=1)
  (h1:w.grownBy w2 (some f.m)) (h2:MapIs w2 f.m (zcm f.its++[(i.nm,(zal f.its).length)])) :
  PIn B w2 pm v (F++[⟨f.name,f.line,f.its++[i],f.bv,f.m⟩])∧Below B w w2∧(∀(p:Nat) (cs:Array Value),w.heap[p]?=some (Obj.cells cs 83 (0,0))→w2.heap[p]?=some (Obj.cells cs 83 (0,0))):=by
 have hmem:f∈F++[f]:=by simp
 obtain⟨em,cm,hem⟩:=ze1 (h.labels f hmem)
 have fr:∀ b,b<w.heap.size→¬b=f.m→w2.heap[b]?=w.heap[b]?:=fun b hb hb1=>h1.block b hb (by simpa using hb1)
 have frc:∀(b:Nat) cs t,w.heap[b]?=some (Obj.cells cs t (0,0))→w2.heap[b]?=w.heap[b]?:=by
  intro b cs t hb
  refine fr b (Array.getElem?_eq_some_iff.1 hb).1 ?_
  intro e;rw [e,hem] at hb;cases hb
 refine⟨⟨?_,?_,?_,?_,?_,h.lowp,?_,?_,?_⟩,?_,?_⟩
 ·have hr:=zaj (w':=w2) h.row (fun g hg=>by obtain⟨c2,hc2⟩:=zbK h.row hg;exact frc g c2 _ hc2)
  rw [zd0] at hr ⊢
  simpa using hr
 ·intro f' hf'
  have hbo:∀ f0∈F++[f],w2.ownsRow B 135 8 f0.bv (zal f0.its).length (zav (zal f0.its)):=fun f0 hf0 =>
   zaj (h.bodies f0 hf0) (fun g hg=>by obtain⟨c2,hc2⟩:=zbK (h.bodies f0 hf0) hg;exact frc g c2 _ hc2)
  rw [List.mem_append] at hf'
  rcases hf' with hf'|hf'
  ·exact hbo f' (by simp [hf'])
  ·simp at hf';subst hf'
   show World.ownsRow _ B 135 8 _ (zal (f.its++[i])).length (zav (zal (f.its++[i])))
   rw [zlw _ _ hi]
   exact hbo f hmem
 ·intro f' hf'
  rw [List.mem_append] at hf'
  rcases hf' with hf'|hf'
  ·have hb':=h.labels f' (by simp [hf'])
   exact hb'.of_block (fr _ hb'.lt ((List.pairwise_append.1 h.maps).2.2 f' hf' f (by simp)))
  ·simp at hf';subst hf'
   show MapIs w2 f.m (zcm (f.its++[i]))
   rw [zj9 _ _ hi]
   exact h2
 ·have:=h.places.of_block (w':=w2) (fr _ h.places.lt (fun e=>h.pmNot f hmem e.symm))
  rw [zeb] at this ⊢
  exact this
 ·intro f' hf'
  rw [List.mem_append] at hf'
  rcases hf' with hf'|hf'
  ·exact h.lowm f' (by simp [hf'])
  ·simp at hf';subst hf';exact h.lowm f hmem
 ·intro f' hf'
  rw [List.mem_append] at hf'
  rcases hf' with hf'|hf'
  ·exact h.pmNot f' (by simp [hf'])
  ·simp at hf';subst hf';exact h.pmNot f hmem
 ·have:=List.pairwise_append.1 h.maps
  refine List.pairwise_append.2 ⟨this.1,by simp,fun a ha b hb=>?_⟩
  simp at hb;subst hb
  exact this.2.2 a ha f (by simp)
 ·have:=List.pairwise_append.1 h.rows
  refine List.pairwise_append.2 ⟨this.1,by simp,fun a ha b hb=>?_⟩
  simp at hb;subst hb
  exact this.2.2 a ha f (by simp)
 ·exact(Below.refl B w).grown h1 (by have:=h.lowm f hmem;have:=(h.labels f hmem).lt;omega) (fun k e=>by simp at e;subst e;exact h.lowm f hmem)
 ·intro p cs hp
  rw [frc p cs _ hp];exact hp
theorem PIn.begun{B:Nat}{w w1 w2:World}{pm:Nat}{v:Value}{F:List FnM}{nm:ByteArray}{line:Int}{p g cap:Nat}
  (h:PIn B w pm v F) (hp:w.heap[p]?=some (.cells #[v,.map (some pm)] 83 (0,0))) (hpB:B≤p)
  (h1:w.grownBy w2 (some pm)) (h2:MapIs w2 pm (zbj F++[(nm,F.length)])) (h3:w2.grownBy w1 v.ownBlock) (hsz:w.heap.size≤w2.heap.size) (h5:MapIs w1 w2.heap.size [])
  (h4:w1.ownsRow B 131 4 (.slice (some ⟨g,0,none⟩) (F.length+1) cap) (F.length+1) (zct F++[.string nm,.int .i64 line,.slice none 0 0,.map (some w2.heap.size)])) (hat:v.ownBlock=some g∨w2.heap.size<g) :
  PIn B (w1.setCell ⟨p,0,none⟩ (.slice (some ⟨g,0,none⟩) (F.length+1) cap)) pm (.slice (some ⟨g,0,none⟩) (F.length+1) cap) (F++[⟨nm,line,[],.slice none 0 0,w2.heap.size⟩]) ∧
  Below B w (w1.setCell ⟨p,0,none⟩ (.slice (some ⟨g,0,none⟩) (F.length+1) cap)) ∧
  (w1.setCell ⟨p,0,none⟩ (.slice (some ⟨g,0,none⟩) (F.length+1) cap)).heap[p]?=some (.cells #[.slice (some ⟨g,0,none⟩) (F.length+1) cap,.map (some pm)] 83 (0,0)):=by
 have hpl:p<w.heap.size:=(Array.getElem?_eq_some_iff.1 hp).1
 have hpml:pm<w.heap.size:=h.places.lt
 obtain⟨em,cm,hem⟩:=ze1 h.places
 have n1:¬p=pm:=by intro e;rw [e,hem] at hp;cases hp
 have n2:¬v.ownBlock=some p:=by
  intro e
  obtain⟨c2,hc2⟩:=zbK h.row e
  rw [hp] at hc2;simp at hc2
 have n3:¬v.ownBlock=some pm:=by
  intro e
  obtain⟨c2,hc2⟩:=zbK h.row e
  rw [hem] at hc2;cases hc2
 have fr:∀ b,b<w.heap.size→¬b=pm→¬v.ownBlock=some b→¬b=p→(w1.setCell ⟨p,0,none⟩ (.slice (some ⟨g,0,none⟩) (F.length+1) cap)).heap[b]?=w.heap[b]?:=by
  intro b hb hb1 hb2 hb3
  rw [Below.heap_setCell _ _ _ _ (by exact hb3),h3.block b (by omega) (fun e=>hb2 e.symm),h1.block b hb (by simpa using hb1)]
 have hp1:w1.heap[p]?=some (.cells #[v,.map (some pm)] 83 (0,0)):=by
  rw [h3.block p (by omega) (fun e=>n2 e.symm),h1.block p hpl (by simpa using n1)]
  exact hp
 have hgp:¬g=p:=by
  rcases hat with e|e
  ·intro e2;rw [e2] at e;exact n2 e
  ·omega
 refine⟨⟨?_,?_,?_,?_,?_,h.lowp,?_,?_,?_⟩,?_,?_⟩
 ·have e:(F++[(⟨nm,line,[],.slice none 0 0,w2.heap.size⟩:FnM)]).length=F.length+1:=by simp
  rw [e,zd0]
  exact zaj h4 fun b hb=>by
   have:g=b:=by simpa [Value.ownBlock] using hb
   subst this
   exact Below.heap_setCell _ _ _ _ (by exact hgp)
 ·intro f' hf'
  rw [List.mem_append] at hf'
  rcases hf' with hf'|hf'
  ·have hb':=h.bodies f' hf'
   refine zaj hb' fun b hb=>?_
   obtain⟨c2,hc2⟩:=zbK hb' hb
   refine fr b (hb'.lt b hb).2 ?_ ?_ ?_
   ·intro e;rw [e,hem] at hc2;cases hc2
   ·intro e
    obtain⟨c3,hc3⟩:=zbK h.row e
    rw [hc2] at hc3;simp at hc3
   ·intro e;rw [e,hp] at hc2;simp at hc2
  ·simp at hf';subst hf'
   exact World.ownsRow_nil _ _ _ _
 ·intro f' hf'
  rw [List.mem_append] at hf'
  rcases hf' with hf'|hf'
  ·have hb':=h.labels f' hf'
   obtain⟨e2,c2,hc2⟩:=ze1 hb'
   refine hb'.of_block (fr _ hb'.lt (h.pmNot f' hf') ?_ ?_)
   ·intro e
    obtain⟨c3,hc3⟩:=zbK h.row e
    rw [hc2] at hc3;cases hc3
   ·intro e;rw [e,hp] at hc2;cases hc2
  ·simp at hf';subst hf'
   exact h5.of_block (Below.heap_setCell _ _ _ _ (by show ¬w2.heap.size=p;omega))
 ·have a1:=h2.kept h3 (fun e=>n3 e.symm)
  have a2:=a1.of_block (w':=w1.setCell ⟨p,0,none⟩ (.slice (some ⟨g,0,none⟩) (F.length+1) cap)) (Below.heap_setCell _ _ _ _ (fun e=>n1 e.symm))
  rw [zeb]
  exact a2
 ·intro f' hf'
  rw [List.mem_append] at hf'
  rcases hf' with hf'|hf'
  ·exact h.lowm f' hf'
  ·simp at hf';subst hf';show B≤w2.heap.size;omega
 ·intro f' hf'
  rw [List.mem_append] at hf'
  rcases hf' with hf'|hf'
  ·exact h.pmNot f' hf'
  ·simp at hf';subst hf';show ¬w2.heap.size=pm;omega
 ·refine List.pairwise_append.2 ⟨h.maps,by simp,fun a ha b hb=>?_⟩
  simp at hb;subst hb
  have:=(h.labels a ha).lt
  show ¬a.m=w2.heap.size;omega
 ·refine List.pairwise_append.2 ⟨h.rows,by simp,fun a ha b hb b' hb'=>?_⟩
  simp at hb;subst hb
  simp [Value.ownBlock]
 ·have b1:Below B w w2:=(Below.refl B w).grown h1 (by have:=h.lowp;omega) (fun k e=>by simp at e;subst e;exact h.lowp)
  have b2:Below B w w1:=b1.grown h3 (by omega) (fun k e=>(h.row.lt k e).1)
  exact b2.setCell hpB _
 ·have:=heap_setCell_same w1 p 0 #[v,.map (some pm)] 83 (.slice (some ⟨g,0,none⟩) (F.length+1) cap) hp1
  rw [this]
  simp
end
end Go.Proofs.YtfpgjkbjbbgciaaGreatDoor
