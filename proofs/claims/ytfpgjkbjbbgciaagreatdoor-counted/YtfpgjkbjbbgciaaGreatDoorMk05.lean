import Derived.Test.YtfpgjkbjbbgciaaGreatDoorMk01
import Derived.Test.YtfpgjkbjbbgciaaGreatDoorMk03
set_option maxRecDepth 100000
set_option maxHeartbeats 8000000
namespace Go.Proofs.YtfpgjkbjbbgciaaGreatDoor
namespace Sp
def opOk(k:UInt8)(x:ByteArray):Bool:=if k=82 then decide (0≤reg x) else if k=75 then(zb3 x).2 else za6 x
def za1:List UInt8→List ByteArray→Bool
 | [],_=>true
 | k :: ks,x :: xs=>opOk k x&&za1 ks xs
 | _ :: _,[]=>true
def zfi(s:ByteArray):Int:=bt s (s.size-1)
def zek(x:ByteArray):Bool:=isW x [102,117,110,99]
structure Said where
 kind:Int
 kept:List ByteArray
 ok:Bool
def sayW(l:List ByteArray):Said :=
 match l with
 | []=>⟨0,[],true⟩
 | x :: r =>
  if zek x=true then⟨102,l,decide (l.length=2)&&za6 (l.getLast?.getD ByteArray.empty)⟩
  else if l.length=1∧zfi x=58 then⟨108,[x.extract 0 (x.size-1)],za6 (x.extract 0 (x.size-1))⟩
  else⟨105,l,if zaa x=[63]∨¬l.length=(zaa x).length+1 then false else za1 (zaa x) r⟩
def say(s:ByteArray):Said:=if zaz s 0=true then sayW (zbu s) else⟨0,[],false⟩
theorem zfj(s now:ByteArray)(l:List ByteArray)(hl:∀ x∈l,1≤x.size∧x.size≤s.size)(hn:now.size≤s.size):∀ x∈flush now l,1≤x.size∧x.size≤s.size:=by
 intro x a;unfold flush at a;split at a
 ·exact hl x a
 ·rw [List.mem_append] at a;rcases a with a|a
  ·exact hl x a
  ·simp at a;subst a;omega
theorem zdO(s:ByteArray)(i:Nat)(now:ByteArray)(l:List ByteArray)(hl:∀ x∈l,1≤x.size∧x.size≤s.size)(hn:now.size≤i)(hi:i≤s.size):∀ x∈zaE s i now l,1≤x.size∧x.size≤s.size:=by
 by_cases h:i<s.size
 ·by_cases a:bt s i=32∨bt s i=9∨bt s i=59
  ·by_cases b:bt s i=59
   ·rw [zcK s i now l h b];exact zfj s now l hl (by omega)
   ·rw [zcl s i now l h (by omega)];exact zdO s (i+1) _ _ (zfj s now l hl (by omega)) (by simp) (by omega)
  ·rw [zeB s i now l h a];exact zdO s (i+1) _ _ hl (by rw [ByteArray.size_append,ByteArray.size_extract];omega) (by omega)
 ·rw [zdf s i now l h];exact zfj s now l hl (by omega)
termination_by s.size-i
theorem zhM(s:ByteArray):∀ x∈zbu s,1≤x.size∧x.size≤s.size:=zdO s 0 _ _ (by simp) (by simp) (by omega)
theorem zqf(ks:List UInt8)(xs:List ByteArray)(i:Nat)(hk:i<ks.length)(hx:i<xs.length):za1 (ks.drop i) (xs.drop i)=(opOk ks[i] xs[i]&&za1 (ks.drop (i+1)) (xs.drop (i+1))):=by
 rw [List.drop_eq_getElem_cons hk,List.drop_eq_getElem_cons hx];rfl
def Wf(q:Said):Prop:=(q.kind=0∧q.kept.length=0)∨(q.kind=102∧q.kept.length=2)∨(q.kind=108∧q.kept.length=1)∨(q.kind=105∧1≤q.kept.length∧q.kept.length≤4)
def eqW(a b:ByteArray):Bool:=a.toList == b.toList
def Said.word(q:Said)(i:Nat):ByteArray:=q.kept[i]?.getD ByteArray.empty
def isFn(q:Said)(x:ByteArray):Bool:=decide (q.kind=102)&&eqW (q.word 1) x
def zcO(q:Said)(x:ByteArray):Bool:=decide (q.kind=108)&&eqW (q.word 0) x
def zb1(L:List Said)(x:ByteArray)(i:Nat):Int :=
 if h:i<L.length then(if isFn L[i] x=true then(i:Int) else zb1 L x (i+1)) else -1
termination_by L.length-i
def zfl(L:List Said):Nat→Int
 | 0=>if(L[0]?.map Said.kind)=some 102 then 0 else -1
 | k+1=>if(L[k+1]?.map Said.kind)=some 102 then((k+1:Nat):Int) else zfl L k
def zbg(L:List Said)(x:ByteArray)(i:Nat):Int :=
 if h:i<L.length then(if L[i].kind=102 then -1 else if zcO L[i] x=true then(i:Int) else zbg L x (i+1)) else -1
termination_by L.length-i
def zhV(L:List Said)(k:Nat)(x:ByteArray):Int:=zbg L x (zfl L k+1).toNat
theorem zgr(L:List Said)(x:ByteArray)(i:Nat)(h:¬i<L.length):zb1 L x i=-1:=by rw [zb1,dif_neg h]
theorem zdA(L:List Said)(x:ByteArray)(i:Nat)(h:i<L.length)(h':isFn L[i] x=true):zb1 L x i=i:=by rw [zb1,dif_pos h,if_pos h']
theorem zdg(L:List Said)(x:ByteArray)(i:Nat)(h:i<L.length)(h':isFn L[i] x=false):zb1 L x i=zb1 L x (i+1):=by rw [zb1,dif_pos h,if_neg (by simp [h'])]
theorem zfm(L:List Said)(x:ByteArray)(i:Nat)(h:¬i<L.length):zbg L x i=-1:=by rw [zbg,dif_neg h]
theorem zhW(L:List Said)(x:ByteArray)(i:Nat)(h:i<L.length)(h':L[i].kind=102):zbg L x i=-1:=by rw [zbg,dif_pos h,if_pos h']
theorem zdh(L:List Said)(x:ByteArray)(i:Nat)(h:i<L.length)(h0:¬L[i].kind=102)(h':zcO L[i] x=true):zbg L x i=i:=by rw [zbg,dif_pos h,if_neg h0,if_pos h']
theorem zcq(L:List Said)(x:ByteArray)(i:Nat)(h:i<L.length)(h0:¬L[i].kind=102)(h':zcO L[i] x=false):zbg L x i=zbg L x (i+1):=by rw [zbg,dif_pos h,if_neg h0,if_neg (by simp [h'])]
theorem zfE(L:List Said)(k:Nat)(h:k<L.length)(h':L[k].kind=102):zfl L k=k:=by
 cases k with
 | zero=>unfold zfl;rw [List.getElem?_eq_getElem h];simp [h']
 | succ k=>unfold zfl;rw [List.getElem?_eq_getElem h];simp [h']
theorem zdB(L:List Said)(k:Nat)(h:k+1<L.length)(h':¬L[k+1].kind=102):zfl L (k+1)=zfl L k:=by
 conv=>lhs;unfold zfl
 rw [List.getElem?_eq_getElem h];simp [h']
end Sp
section
open Go.RowKit Sp
theorem zzL{w:World}{B:Nat}{v:Value}{l:List ByteArray}(h:w.ownsRow B 9 1 v l.length (l.map Value.string))(hl:0<l.length):
  ∃ g cap,v=.slice (some ⟨g,0,none⟩) l.length cap∧l.length≤cap∧cap≤maxLen∧B≤g∧g<w.heap.size∧∀ j (hj:j<l.length),w.cell? ⟨g,j,none⟩=some (.string l[j]):=by
 rcases h.2 with ⟨_,a⟩|⟨g,cap,cur,b,d,e,c,f,hs,hx⟩
 ·simp at a;subst a;simp at hl
 ·refine⟨g,cap,b,c,f,d,(Array.getElem?_eq_some_iff.1 e).1,fun j hj=>?_⟩;subst b;rw [World.ownsRow.cellAt h j (by omega)];simp [hj]
theorem zbR{w:World}{b b':Nat}{e:TypeId}{size n:Nat}{v:Value}{xs:List Value}(h:w.ownsRow b e size v n xs)(hb:b'≤b):w.ownsRow b' e size v n xs:=by
 refine⟨h.1,?_⟩;rcases h.2 with d|⟨g,a,c,f,hg,r⟩
 ·exact .inl d
 ·exact .inr ⟨g,a,c,f,by omega,r⟩
theorem znp(w:World)(o1 o2:Obj){w1:World}(hb:Below ((w.alloc o1).alloc o2).heap.size ((w.alloc o1).alloc o2) w1):Below w.heap.size w w1 :=
 (((Below.refl _ _).alloc (Nat.le_refl _) _).alloc (by simp) _).trans (hb.mono (by simp;omega))
theorem zbw{w w':World}{B b:Nat}{e:TypeId}{size n:Nat}{v:Value}{xs:List Value}(h:w.ownsRow b e size v n xs)(hb:Below B w w')(hB:w.heap.size≤B):w'.ownsRow b e size v n xs:=by
 refine⟨h.1,?_⟩;rcases h.2 with f|⟨g,a,c,j,i,d,r⟩
 ·exact .inl f
 ·refine .inr ⟨g,a,c,j,i,?_,r⟩;rw [hb.block g (by have:=(Array.getElem?_eq_some_iff.1 d).1;omega)];exact d
theorem zcL{w:World}{b b':Nat}{e e':TypeId}{size size' n n':Nat}{v v':Value}{xs xs':List Value}(h:w.ownsRow b e size v n xs)(h':w.ownsRow b' e' size' v' n' xs')(hne:¬e=e'):v.ownBlock=none∨v.ownBlock≠v'.ownBlock:=by
 rcases h.2 with ⟨f,_⟩|⟨g,cap,cur,f,hg,hh,r⟩
 ·subst f;exact .inl rfl
 ·rcases h'.2 with ⟨c,_⟩|⟨g',cap',cur',c,hg',a,r'⟩
  ·subst f c;exact .inr (by simp [Value.ownBlock])
  ·subst f c;refine .inr ?_;simp only [Value.ownBlock];intro d;simp only [Option.some.injEq] at d;subst d;rw [hh] at a;simp at a;exact hne a.2
end
namespace Sp
def zeX(L:List Said)(k:Nat):Bool :=
 match L[k]? with
 | none=>false
 | some q=>if q.kind=102 then decide (zb1 L (q.word 1) 0<k) else if q.kind=108 then decide (zhV L k (q.word 0)<k) else false
def Said.last(q:Said):ByteArray:=q.word (q.kept.length-1)
def zaF(x:ByteArray):Bool:=isW x [106,117,109,112]||isW x [108,101,115,115]||isW x [115,97,109,101]
def zbt(x:ByteArray):Bool:=isW x [99,97,108,108]
def zch(L:List Said)(k:Nat):Bool :=
 match L[k]? with
 | none=>false
 | some q=>if q.kind=105 then(if zaF (q.word 0)=true then decide (zhV L k q.last<0) else if zbt (q.word 0)=true then decide (zb1 L q.last 0<0) else false) else false
def ends(x:ByteArray):Bool:=isW x [106,117,109,112]||isW x [98,97,99,107]||isW x [115,116,111,112]
def zfF(L:List Said)(i:Nat)(e:Bool):Bool :=
 if h:i<L.length then
  if L[i].kind=102 then e
  else zfF L (i+1) (if L[i].kind=108 then false else if L[i].kind=105 then ends (L[i].word 0) else e)
 else e
termination_by L.length-i
def zdv(L:List Said)(k:Nat):Bool :=
 match L[k]? with
 | none=>false
 | some q=>if q.kind=102 then !zfF L (k+1) false else false
theorem zhX(L:List Said)(i:Nat)(e:Bool)(h:¬i<L.length):zfF L i e=e:=by rw [zfF,dif_neg h]
theorem znu(L:List Said)(i:Nat)(e:Bool)(h:i<L.length)(h':L[i].kind=102):zfF L i e=e:=by rw [zfF,dif_pos h,if_pos h']
theorem zeC(L:List Said)(i:Nat)(e:Bool)(h:i<L.length)(h':¬L[i].kind=102):zfF L i e=zfF L (i+1) (if L[i].kind=108 then false else if L[i].kind=105 then ends (L[i].word 0) else e):=by
 conv=>lhs;rw [zfF,dif_pos h,if_neg h']
end Sp
section
open Go.RowKit Sp
def zhu(l:List Int):Nat→Int
 | 0=>l.headD 0
 | k+1=>min (zhu l k) (l[k+1]?.getD 0)
def zhv(l:List Int):Nat→Int
 | 0=>l.headD 0
 | k+1=>max (zhv l k) (l[k+1]?.getD 0)
theorem zwZ(w:World)(b cap:Nat)(l:List Int)(h0:0<l.length)(hn:l.length≤1000)(hc:∀ j (h:j<l.length),w.cell? ⟨b,j,none⟩=some (.int .i64 l[j])):
  Calls Tryz.prog 247 #[.slice (some ⟨b,0,none⟩) l.length cap] w fun e w'=>e=.returned (.int .i64 (zhu l (l.length-1)))∧w'=w:=by
 have f:=hc 0 h0;have e0:zhu l 0=l[0]:=by cases l with|nil=>simp at h0|cons x r=>rfl
 go_enter Tryz.func247,Tryz.ntmps247;go_wp2
 go_loopw [4,3] (fun ti tm wr=>∃ k:Nat,1≤k∧k≤l.length∧ti=.int .i64 (k:Int)∧tm=.int .i64 (zhu l (k-1))∧wr=w) (fun ti _ _=>l.length-(intOf ti).toNat)
 case atStart=>exact⟨1,by omega,by omega,rfl,by rw [e0],rfl⟩
 case round =>
  obtain⟨k,h1,hk,rfl,rfl,rfl⟩:=hrel;by_cases a:k<l.length
  ·have g:=hc k a;have hk0:(0:Int)≤(k:Int):=by omega
   have hk1:(k:Int)<(l.length:Int):=by omega
   have d:Hid (zhu l k=min (zhu l (k-1)) l[k]):=by
    obtain⟨c,rfl⟩:∃ c,k=c+1:=⟨k-1,by omega⟩
    show min (zhu l c) (l[c+1]?.getD 0)=_;rw [List.getElem?_eq_getElem a];rfl
   clear hc f;generalize l[k]=x at g d;generalize zhu l (k-1)=y at d;go_wp2;go_roundw
   case rel=>exact⟨k+1,by omega,by omega,by go_num,by simp only [Nat.add_sub_cancel];rw [d.out],by first|rfl|trivial⟩
   case measure=>simp [intOf];omega
  ·obtain rfl:k=l.length:=by omega
   go_wp2;go_ret;exact⟨rfl,rfl⟩
theorem zxa(w:World)(b cap:Nat)(l:List Int)(h0:0<l.length)(hn:l.length≤1000)(hc:∀ j (h:j<l.length),w.cell? ⟨b,j,none⟩=some (.int .i64 l[j])):
  Calls Tryz.prog 248 #[.slice (some ⟨b,0,none⟩) l.length cap] w fun e w'=>e=.returned (.int .i64 (zhv l (l.length-1)))∧w'=w:=by
 have f:=hc 0 h0;have e0:zhv l 0=l[0]:=by cases l with|nil=>simp at h0|cons x r=>rfl
 go_enter Tryz.func248,Tryz.ntmps248;go_wp2
 go_loopw [4,3] (fun ti tm wr=>∃ k:Nat,1≤k∧k≤l.length∧ti=.int .i64 (k:Int)∧tm=.int .i64 (zhv l (k-1))∧wr=w) (fun ti _ _=>l.length-(intOf ti).toNat)
 case atStart=>exact⟨1,by omega,by omega,rfl,by rw [e0],rfl⟩
 case round =>
  obtain⟨k,h1,hk,rfl,rfl,rfl⟩:=hrel;by_cases a:k<l.length
  ·have g:=hc k a;have hk0:(0:Int)≤(k:Int):=by omega
   have hk1:(k:Int)<(l.length:Int):=by omega
   have d:Hid (zhv l k=max (zhv l (k-1)) l[k]):=by
    obtain⟨c,rfl⟩:∃ c,k=c+1:=⟨k-1,by omega⟩
    show max (zhv l c) (l[c+1]?.getD 0)=_;rw [List.getElem?_eq_getElem a];rfl
   clear hc f;generalize l[k]=x at g d;generalize zhv l (k-1)=y at d;go_wp2;go_roundw
   case rel=>exact⟨k+1,by omega,by omega,by go_num,by simp only [Nat.add_sub_cancel];rw [d.out],by first|rfl|trivial⟩
   case measure=>simp [intOf];omega
  ·obtain rfl:k=l.length:=by omega
   go_wp2;go_ret;exact⟨rfl,rfl⟩
end
namespace Sp
inductive Ins where
 | set (r:Nat) (k:Int)
 | mov (r s:Nat)
 | alu (o:Nat) (r s t:Nat)
 | inc (r:Nat) (k:Int)
 | load (r s:Nat)
 | store (r s:Nat)
 | read (r:Nat)
 | write (r:Nat)
 | jump (to:Int)
 | less (r s:Nat) (to:Int)
 | same (r s:Nat) (to:Int)
 | call (to:Int)
 | back
 | stop
structure Mc where
 at':Int
 backs:List Int
 inp:List Int
 steps:Int
 regs:Nat→Int
 cells:Nat→Int
 out:List Int
 frames:Int
 peak:Int
 fin:Int
def upd(f:Nat→Int)(i:Nat)(v:Int):Nat→Int:=fun j=>if j=i then v else f j
theorem zfG(f:Nat→Int)(i:Nat)(v:Int):upd f i v i=v:=by simp [upd]
theorem zen(f:Nat→Int)(i j:Nat)(v:Int)(h:¬j=i):upd f i v j=f j:=by simp [upd,h]
def w64(x:Int):Int:=(x+9223372036854775808)%18446744073709551616-9223372036854775808
def zc1(o:Nat)(a b:Int):Int:=if o=0 then w64 (a+b) else if o=1 then w64 (a-b) else w64 (a*b)
def Mc.goes(m:Mc)(to:Int):Mc:={ m with steps:=m.steps+1,at':=to }
def exec(i:Ins)(next:Int)(m:Mc):Mc :=
 match i with
 | .set r k=>{ m with regs:=upd m.regs r k }.goes next
 | .mov r s=>{ m with regs:=upd m.regs r (m.regs s) }.goes next
 | .alu o r s t=>{ m with regs:=upd m.regs r (zc1 o (m.regs s) (m.regs t)) }.goes next
 | .inc r k=>{ m with regs:=upd m.regs r (w64 (m.regs r+k)) }.goes next
 | .load r s=>if m.regs s<0∨15<m.regs s then{ m with fin:=3 } else{ m with regs:=upd m.regs r (m.cells (m.regs s).toNat) }.goes next
 | .store r s=>if m.regs r<0∨15<m.regs r then{ m with fin:=3 } else{ m with cells:=upd m.cells (m.regs r).toNat (m.regs s) }.goes next
 | .read r=>{ m with regs:=upd m.regs r (m.inp.headD 0),inp:=m.inp.tail }.goes next
 | .write r=>{ m with out:=m.out++[m.regs r] }.goes next
 | .jump to=>m.goes to
 | .less r s to=>m.goes (if m.regs r<m.regs s then to else next)
 | .same r s to=>m.goes (if m.regs r=m.regs s then to else next)
 | .call to=>if m.frames=16 then{ m with fin:=4 } else{ m with backs:=m.backs++[next],frames:=m.frames+1,peak:=max m.peak (m.frames+1) }.goes to
 | .back=>if m.frames=1 then{ m with frames:=0,fin:=2 }.goes (-1) else{ m with frames:=m.frames-1,backs:=m.backs.dropLast }.goes (m.backs.getLastD 0)
 | .stop=>{ m with fin:=1 }.goes (-1)
def za7(L:List Said)(i:Nat):Int :=
 if h:i<L.length then(if L[i].kind=102 then -1 else if L[i].kind=105 then(i:Int) else za7 L (i+1)) else -1
termination_by L.length-i
theorem zl0(L:List Said)(i:Nat)(h:¬i<L.length):za7 L i=-1:=by rw [za7,dif_neg h]
theorem zql(L:List Said)(i:Nat)(h:i<L.length)(h':L[i].kind=102):za7 L i=-1:=by rw [za7,dif_pos h,if_pos h']
theorem zhc(L:List Said)(i:Nat)(h:i<L.length)(h':L[i].kind=105):za7 L i=i:=by rw [za7,dif_pos h,if_neg (by omega),if_pos h']
theorem zfn(L:List Said)(i:Nat)(h:i<L.length)(h0:¬L[i].kind=102)(h':¬L[i].kind=105):za7 L i=za7 L (i+1):=by rw [za7,dif_pos h,if_neg h0,if_neg h']
def regN(x:ByteArray):Nat:=(reg x).toNat
def zhq(L:List Said)(k:Nat)(x:ByteArray):Int:=za7 L (zhV L k x).toNat
def fnTo(L:List Said)(x:ByteArray):Int:=za7 L (zb1 L x 0+1).toNat
def insQ(L:List Said)(k:Nat)(q:Said):Ins :=
 if isW (q.word 0) [106,117,109,112]=true then .jump (zhq L k q.last)
 else if isW (q.word 0) [108,101,115,115]=true then .less (regN (q.word 1)) (regN (q.word 2)) (zhq L k q.last)
 else if isW (q.word 0) [115,97,109,101]=true then .same (regN (q.word 1)) (regN (q.word 2)) (zhq L k q.last)
 else if isW (q.word 0) [99,97,108,108]=true then .call (fnTo L q.last)
 else if isW (q.word 0) [98,97,99,107]=true then .back
 else if isW (q.word 0) [115,116,111,112]=true then .stop
 else if isW (q.word 0) [115,101,116]=true then .set (regN (q.word 1)) (zb3 (q.word 2)).1
 else if isW (q.word 0) [109,111,118]=true then .mov (regN (q.word 1)) (regN (q.word 2))
 else if isW (q.word 0) [97,100,100]=true then .alu 0 (regN (q.word 1)) (regN (q.word 2)) (regN (q.word 3))
 else if isW (q.word 0) [115,117,98]=true then .alu 1 (regN (q.word 1)) (regN (q.word 2)) (regN (q.word 3))
 else if isW (q.word 0) [109,117,108]=true then .alu 2 (regN (q.word 1)) (regN (q.word 2)) (regN (q.word 3))
 else if isW (q.word 0) [105,110,99]=true then .inc (regN (q.word 1)) (zb3 (q.word 2)).1
 else if isW (q.word 0) [108,111,97,100]=true then .load (regN (q.word 1)) (regN (q.word 2))
 else if isW (q.word 0) [115,116,111,114,101]=true then .store (regN (q.word 1)) (regN (q.word 2))
 else if isW (q.word 0) [114,101,97,100]=true then .read (regN (q.word 1))
 else .write (regN (q.word 1))
def zl1(L:List Said)(m:Mc):Mc :=
 match L[m.at'.toNat]? with
 | none=>m
 | some q=>exec (insQ L m.at'.toNat q) (za7 L (m.at'.toNat+1)) m
def runS(f:Mc→Mc):Nat→Mc→Mc
 | 0,m=>m
 | n+1,m=>if m.fin=0 then runS f n (f m) else m
theorem zbB(f:Mc→Mc)(n:Nat)(m:Mc)(h:¬m.fin=0):runS f n m=m:=by
 cases n with
 | zero=>rfl
 | succ n=>show(if m.fin=0 then _ else _)=m;rw [if_neg h]
theorem zbv(f:Mc→Mc)(n:Nat)(m:Mc)(h:m.fin=0):runS f (n+1) m=runS f n (f m):=by
 show(if m.fin=0 then _ else _)=_;rw [if_pos h]
def zgs(L:List Said)(i:Nat):Nat:=if h:i<L.length then(if L[i].kind=102 then i else zgs L (i+1)) else i
termination_by L.length-i
def zhY(L:List Said)(inp:List Int):Mc:=⟨za7 L (zgs L 0+1),[],inp,0,fun _=>0,fun _=>0,[],1,1,0⟩
def Mc.line(m:Mc):Int:=if m.fin=1∨m.fin=2 then 0 else m.at'+1
end Sp
section
section
variable {P:Program} {ops:Array Oper} {md:Region.Mode} {C:World→Prop}
def zic(P:Program)(md:Region.Mode)(ops:Array Oper)(C:World→Prop)(n:Nat)(L:Array Bool→Act→Prop):Nat→Array Bool→Act→Prop
 | 0,listed,a=>L listed a
 | f+1,listed,a=>¬Region.ready md ops listed=[]∧∀ i∈Region.ready md ops listed,i<n∧qOp P ops C i (zic P md ops C n L f (listed.setIfInBounds i true)) a
theorem zid{n g:Nat}{L:Array Bool→Act→Prop}{Q:Exit→Act→World→Prop}(hL:∀ listed a w,C w→L listed a→wpAny P md ops Q g listed a w)(f:Nat):
  ∀(listed:Array Bool) (a:Act) (w:World),C w→zic P md ops C n L f listed a→wpAny P md ops Q (f+g) listed a w:=by
 induction f with
 | zero=>intro listed a w b h;rw [Nat.zero_add];exact hL _ _ _ b h
 | succ f ih =>
  intro listed a w b h;rw [show f+1+g=(f+g)+1 by omega];exact⟨fun h0=>absurd h0 h.1,fun i hi=>wpOp_of_qOp b (fun a' w' hw' h'=>ih _ a' w' hw' h') (h.2 i hi).2⟩
theorem zjH{n i:Nat}{listed:Array Bool}(hs:Region.sinkB md ops n=true)(hc:Region.chainB md ops n=true)(hn:n<ops.size)(hin:i<n)(inv:HeadInv md ops n listed)(hr:i∈Region.ready md ops listed){j:Nat}(hj:j∈Region.ready md ops listed):j<n:=by
 by_cases h:j<n
 ·exact h
 ·exact absurd hj (tail_waits hs hc hn inv _ i rfl hin (mem_ready.1 hr).1 j (by omega))
theorem zqp{n i:Nat}{oi:Oper}{v:Value}{L:Array Bool→Act→Prop}(hi:ops[i]?=some oi)(hsel:∀(j:Nat) (o:Oper) cs b,ops[j]?=some o→o.op≠.select cs b)
  (hs:Region.sinkB md ops n=true) (hc:Region.chainB md ops n=true) (hn:n<ops.size) (hin:i<n)
  (hdone:∀ listed a,L listed a→∀ j∈Region.ready md ops listed,n≤j) (f:Nat) :
  ∀(listed:Array Bool) (a:Act),HeadInv md ops n listed →
   (∀ j oj,ops[j]?=some oj→j≠i→listed.getD j true=false→(∀ e∈oj.after,Region.binds md e=true→e.on≠i)→oi.apart ops oj=true) →
   i∈Region.ready md ops listed→YieldsIn P ops C oi v a →
   zic P md ops C n L f (listed.setIfInBounds i true) (a.put oi.dst v)→zic P md ops C n L (f+1) listed a:=by
 induction f with
 | zero =>
  intro listed a m _ l u H;refine⟨fun h=>(by rw [h] at l;cases l),fun j hj=>?_⟩;have g:=zjH hs hc hn hin m l hj;by_cases e:j=i
  ·exact⟨g,by rw [e];exact u.qOp hi H⟩
  ·have:=hdone _ _ H j (ready_mono hj e);omega
 | succ f ih =>
  intro listed a m c l u H;refine⟨fun h=>(by rw [h] at l;cases l),fun j hj=>?_⟩;have g:=zjH hs hc hn hin m l hj;by_cases e:j=i
  ·exact⟨g,by rw [e];exact u.qOp hi H⟩
  ·obtain⟨p,oj,q,r⟩:=mem_ready.1 hj;have w:=(mem_ready.1 l).1;have t:∀ d∈oj.after,Region.binds md d=true→d.on≠i:=fun d hd hb heq=>by
    have x:=r d hd hb;rw [heq,getD_both w] at x;cases x
   have y:=qOp_put q (c j oj q e p t) (fun cs b=>hsel i oi cs b hi) (fun cs b=>hsel j oj cs b q) u (H.2 j (ready_mono hj e)).2;refine⟨g,qOp_mono (fun a' h3=>ih (listed.setIfInBounds j true) a' (m.set hj g) (fun k ok hk hki hku hno=>?_) (ready_mono l (Ne.symm e)) h3.1 (by rw [Array.setIfInBounds_comm _ _ e];exact h3.2)) y⟩;refine c k ok hk hki ?_ hno;by_cases s:j=k
   ·rw [←s];exact p
   ·rw [getD_set_ne true s] at hku;exact hku
theorem zpg{n g:Nat}{R:Act→Prop}(hsel:Region.noSelect ops=true)(hs:Region.sinkB md ops n=true)(hc:Region.chainB md ops n=true)(hn:n<ops.size)(l:List Oper):
  ∀(k:Nat) (listed:Array Bool) (a:Act),(∀ j,j<l.length→l[j]?=ops[k+j]?)→k+l.length=n→HeadInv md ops n listed →
  Region.lexHead md ops g l.length k listed=true→wpQuiet P ops C R l a →
  zic P md ops C n (fun listed' a'=>Region.seqB md ops g n listed'=true∧R a') l.length listed a:=by
 induction l with
 | nil =>
  intro k listed a _ e _ b h;obtain rfl:k=n:=by simpa using e
  exact⟨by simpa [Region.lexHead] using b,h⟩
 | cons o l ih =>
  intro k listed a f e c b h;have d:ops[k]?=some o:=by simpa using (f 0 (by simp)).symm
  simp only [List.length_cons,Region.lexHead,Bool.and_eq_true] at b e;have i:k∈Region.ready md ops listed:=by simpa using b.1.1
  have p:qOp P ops C k (wpQuiet P ops C R l) a:=by unfold qOp;simp only [d];exact h
  obtain⟨v,q,m⟩:=yieldsIn_of_qOp d p;refine zqp d (Region.noSelect_spec hsel) hs hc hn (by omega) (fun _ _ hL=>seqB_ready hL.1) l.length listed a c (Region.free_spec d b.1.2) i q ?_;refine ih (k+1) _ _ (fun j hj=>?_) (by omega) (c.set i (by omega)) b.2 m;have:=f (j+1) (by simp;omega);simpa [Nat.add_assoc,Nat.add_comm 1 j] using this
theorem zan{id:Nat}{Q:Exit→Act→World→Prop}{a:Act}{w:World}{l:List Oper}(n:Nat)(hm:P.follows .mixedOrders=true)(hB:Region.lexTailB .any l.toArray n=true)
  (h:wpQuiet P l.toArray (fun w'=>∃ k,w'=w.drewN k) (fun a'=>∀ w',(∃ k,w'=w.drewN k)→wpList P l.toArray Q (l.drop n) a' w') (l.take n) a):(Code.region id l.toArray true).wp P Q a w:=by
 simp only [Region.lexTailB,Bool.and_eq_true,decide_eq_true_eq] at hB;obtain⟨⟨⟨⟨c,f⟩,m⟩,i⟩,b⟩:=hB;have hn':n<l.length:=by simpa using f
 have e:(l.take n).length=n:=by simp;omega
 have hdl:(l.drop n).length=l.toArray.size-n:=by simp
 have d:HeadInv .any l.toArray n (Array.replicate l.toArray.size false) :=
  ⟨by simp,fun j oj _ hl=>(by rw [getD_replicate_false] at hl;cases hl),fun t _ ht=>getD_in (by simpa using ht) (getD_replicate_false _ _)⟩
 have H:=zpg (md:=.any) (g:=l.toArray.size-n) c m i f (l.take n) 0 _ a (fun j hj=>by
  have:j<n:=by rw [e] at hj;exact hj
  simp [this]) (by simpa using e) d (by rw [e];exact b) h
 refine wp_region_any hm ?_;have:=zid (Q:=Q) (g:=l.toArray.size-n) (fun listed a' w' hw' hL=>by
  have:=wpAny_of_seq (md:=.any) (Q':=Q) (l.drop n) n listed a' w' (fun j=>by simp [List.getElem?_drop]) (by rw [hdl];exact hL.1) (hL.2 w' hw');rwa [hdl] at this) _ _ _ _ ⟨1,rfl⟩ H
 rw [e,show n+(l.toArray.size-n)=l.toArray.size by omega] at this;exact this
end
end
namespace Sp
theorem zny(s:ByteArray)(a b c:Nat)(h1:a≤b)(h2:b≤c):s.extract a b++s.extract b c=s.extract a c:=by
 apply ByteArray.ext;rw [ByteArray.data_append,ByteArray.data_extract,ByteArray.data_extract,ByteArray.data_extract];rw [Array.extract_append_extract];congr 1 <;> omega
theorem zyr(s:ByteArray)(a:Nat):s.extract a a=ByteArray.empty:=by
 apply ByteArray.ext;rw [ByteArray.data_extract];simp;omega
theorem zsB(s:ByteArray)(n i:Nat)(now:ByteArray)(l:List ByteArray)(hn:i+n≤s.size)(h:∀ j,i≤j→j<i+n→¬(bt s j=32∨bt s j=9∨bt s j=59)):zaE s i now l=zaE s (i+n) (now++s.extract i (i+n)) l:=by
 induction n generalizing i now with
 | zero =>
  rw [Nat.add_zero,zyr];congr 1;simp
 | succ n ih =>
  rw [zeB s i now l (by omega) (h i (by omega) (by omega)),ih (i+1) _ (by omega) (fun j h1 h2=>h j (by omega) (by omega))];rw [show i+1+n=i+(n+1) by omega];congr 1;rw [ByteArray.append_assoc,zny s i (i+1) (i+(n+1)) (by omega) (by omega)]
theorem zfo(s:ByteArray)(k i:Nat)(v u:Int)(h:zd5 s i k v=some u):∀ j,i≤j→j<i+k→128≤bt s j:=by
 induction k generalizing i v with
 | zero=>intro j a b;omega
 | succ k ih =>
  unfold zd5 at h;split at h
  ·rename_i hc;intro j a b;by_cases c:j=i
   ·subst c;omega
   ·exact ih _ _ h j (by omega) (by omega)
  ·cases h
theorem zif(s:ByteArray)(i:Nat)(hi:i<s.size)(h0:¬(chr s i).1=0):(bt s i<128∧chr s i=(1,bt s i))∨(128≤(chr s i).2∧∀ j,i≤j→j<i+chrN s i→128≤bt s j):=by
 by_cases h:bt s i<128
 ·left;exact⟨h,by unfold chr;rw [if_pos h]⟩
 ·right;unfold chrN;unfold chr at h0 ⊢;rw [if_neg h] at h0 ⊢;split at h0
  ·rename_i hc;rw [if_pos hc];rcases zbA 2 128 (zd5 s (i+1) 1 (bt s i-192)) with f|⟨v,c,g,e,_⟩
   ·rw [f] at h0;exact absurd rfl h0
   ·rw [g];refine⟨e,fun j a b=>?_⟩;by_cases d:j=i
    ·subst d;omega
    ·exact zfo s 1 (i+1) _ _ c j (by omega) (by simp at b;omega)
  ·rename_i hc;rw [if_neg hc];split at h0
   ·rename_i hd;rw [if_pos hd];rcases zbA 3 2048 (zd5 s (i+1) 2 (bt s i-224)) with f|⟨v,c,g,e,_⟩
    ·rw [f] at h0;exact absurd rfl h0
    ·rw [g];refine⟨by show 128≤v;omega,fun j a b=>?_⟩;by_cases d:j=i
     ·subst d;omega
     ·exact zfo s 2 (i+1) _ _ c j (by omega) (by simp at b;omega)
   ·rename_i hd;rw [if_neg hd];split at h0
    ·rename_i he;rw [if_pos he];rcases zbA 4 65536 (zd5 s (i+1) 3 (bt s i-240)) with f|⟨v,c,g,e,_⟩
     ·rw [f] at h0;exact absurd rfl h0
     ·rw [g];refine⟨by show 128≤v;omega,fun j a b=>?_⟩;by_cases d:j=i
      ·subst d;omega
      ·exact zfo s 3 (i+1) _ _ c j (by omega) (by simp at b;omega)
    ·exact absurd rfl h0
theorem zeE(s:ByteArray)(i:Nat)(now:ByteArray)(l:List ByteArray)(hi:i<s.size)(h0:¬(chr s i).1=0)(hc:¬((chr s i).2=32∨(chr s i).2=9∨(chr s i).2=59)):zaE s i now l=zaE s (i+chrN s i) (now++s.extract i (i+chrN s i)) l:=by
 have hp:=zcW s i hi h0;refine zsB s (chrN s i) i now l (by omega) (fun j h1 h2=>?_);rcases zif s i hi h0 with ⟨ha,a⟩|⟨_,a⟩
 ·have hN:chrN s i=1:=by unfold chrN;rw [a];rfl
  have:j=i:=by omega
  subst this;rw [a] at hc;exact hc
 ·have:=a j h1 h2;omega
theorem zig(s:ByteArray)(i:Nat)(hi:i<s.size)(h0:¬(chr s i).1=0)(hc:(chr s i).2<128):bt s i=(chr s i).2∧chrN s i=1:=by
 rcases zif s i hi h0 with ⟨ha,a⟩|⟨a,_⟩
 ·unfold chrN;rw [a];exact⟨rfl,rfl⟩
 ·omega
def pre(p:List UInt8):List (List UInt8)→List (List UInt8)
 | h :: t=>(p++h) :: t
 | []=>[p]
def zbL:List UInt8→List (List UInt8)
 | []=>[[]]
 | c :: r=>if c=10 then [] :: zbL r else pre [c] (zbL r)
theorem zn0(l:List (List UInt8))(h:l≠[]):pre [] l=l:=by
 cases l with
 | nil=>exact absurd rfl h
 | cons a b=>rfl
theorem zik(l:List UInt8):zbL l≠[]:=by
 cases l with
 | nil=>simp [zbL]
 | cons c r =>
  unfold zbL;split
  ·simp
  ·cases zbL r <;> simp [pre]
theorem zyw(p q:List UInt8)(l:List (List UInt8)):pre p (pre q l)=pre (p++q) l:=by
 cases l <;> simp [pre]
theorem zkx(s:ByteArray)(f i:Nat)(hf:f≤i)(hi:i≤s.size):(zbK s f i).map (·.data.toList)=pre ((s.data.toList.drop f).take (i-f)) (zbL (s.data.toList.drop i)):=by
 by_cases h:i<s.size
 ·obtain⟨c,r,d,j,g⟩:=zhO s i h;by_cases a:bt s i=10
  ·rw [zfh s f i h a,List.map_cons,zkx s (i+1) (i+1) (by omega) (by omega),d,←g];have b:c=10:=by
    apply UInt8.toNat_inj.1;have:(c.toNat:Int)=10:=by omega
    simp;omega
   subst b;simp only [Nat.sub_self,List.take_zero];rw [zn0 _ (zik _)];simp [zbL,pre]
  ·rw [zgp s f i h a,zkx s f (i+1) (by omega) (by omega),d,←g];have b:¬c=10:=by
    intro e;apply a;rw [←j,e];rfl
   simp only [zbL,b,if_false];rw [zyw];congr 1;have e:i+1-f=(i-f)+1:=by omega
   rw [e,List.take_add_one];congr 1;rw [List.getElem?_drop];have e2:f+(i-f)=i:=by omega
   rw [e2];have h5:s.data.toList[i]?=some c:=by
    have:(s.data.toList.drop i)[0]?=some c:=by rw [d];rfl
    rw [List.getElem?_drop] at this;simpa using this
   rw [h5];rfl
 ·have k:i=s.size:=by omega
  rw [zfg s f i h];have hl:s.data.toList.drop i=[]:=List.drop_of_length_le (by simp;omega);rw [hl];simp [zbL,pre,k]
termination_by s.size-i
theorem zyx(l:List UInt8):Lib.splitK [10] 0 (Lib.count l [10]) l=zbL l:=by
 induction l with
 | nil=>rw [Lib.count_miss (by simp [Lib.index])];rfl
 | cons c r ih =>
  by_cases a:c=10
  ·subst a;rw [Lib.count_cons_eq,Nat.add_comm];have b:Lib.index (10 :: r) [10]=0:=by rw [Lib.index];simp [List.isPrefixOf]
   unfold Lib.splitK;rw [b];simp only [zbL,if_true];rw [←ih];simp
  ·rw [Lib.count_cons_ne c 10 r a];have h:([10]:List UInt8).isPrefixOf (c :: r)=false:=by simp [List.isPrefixOf,Ne.symm a]
   have b:Lib.index (c :: r) [10]=if Lib.index r [10] == -1 then -1 else Lib.index r [10]+1:=by rw [Lib.index,h];simp
   simp only [zbL,a,if_false];rw [←ih];by_cases g:Lib.index r [10]=-1
   ·rw [Lib.count_miss g];rfl
   ·have hge:=Lib.index_ge r [10];obtain⟨j,d⟩:∃ j:Nat,Lib.index r [10]=j:=⟨(Lib.index r [10]).toNat,by omega⟩
    rw [Lib.count_hit (by simp) d,Nat.add_comm];unfold Lib.splitK;rw [b,d];have b1:(((j:Nat):Int) == -1)=false:=by simp
    have e:(((j:Nat):Int)+1 == -1)=false:=by simp;omega
    simp only [b1,e,if_false,Bool.false_eq_true];have e1:((j:Int)+1).toNat=j+1:=by omega
    have f:((j:Nat):Int).toNat=j:=by omega
    rw [e1,f];simp [pre]
theorem zil(s:ByteArray):Lib.splitB ⟨#[10]⟩ 0 (Lib.countB s ⟨#[10]⟩) s=lines s:=by
 have d:(Lib.splitB ⟨#[10]⟩ 0 (Lib.countB s ⟨#[10]⟩) s).map (·.data.toList)=(lines s).map (·.data.toList):=by
  rw [Lib.splitB_data];have c:=zkx s 0 0 (by omega) (by omega);simp only [List.drop_zero,Nat.sub_self,List.take_zero] at c;rw [zn0 _ (zik _)] at c;show Lib.splitK [10] 0 (Lib.count s.data.toList [10]) s.data.toList=(zbK s 0 0).map _;rw [c,zyx]
 refine(List.map_inj_right ?_).1 d;intro a b h;exact ByteArray.ext (Array.ext' h)
theorem zdT(s:ByteArray):(lines s).length=Lib.countByte s.data.toList 10+1∧Lib.countB s ⟨#[10]⟩+1=(lines s).length:=by
 have h:=Lib.splitB_all ⟨#[10]⟩ (by decide) 0 _ s rfl;rw [zil] at h;refine⟨?_,h.symm⟩;rw [h];unfold Lib.countByte;rw [←Lib.count_one]
def ba(l:List UInt8):ByteArray:=⟨l.toArray⟩
theorem zjk(l:List UInt8):(ba l).data.toList=l:=rfl
theorem zjl(l:List UInt8):(ba l).toList=l:=by rw [ByteArray.toList_eq];rfl
theorem zcS(l:List UInt8):(ba l).size=l.length:=rfl
theorem zuF(s:ByteArray):ba s.data.toList=s:=rfl
theorem zoC(l:List UInt8)(k:Nat):bt (ba l) k=((l[k]?.getD 0).toNat:Int):=by
 unfold bt ba;simp
theorem zxt(l:List UInt8):lines (ba l)=(zbL l).map ba:=by
 have h:=zkx (ba l) 0 0 (Nat.le_refl _) (Nat.zero_le _);rw [Nat.sub_zero,List.take_zero,zn0 _ (zik _),zjk,List.drop_zero] at h;rw [←h,List.map_map];show lines (ba l)=(zbK (ba l) 0 0).map _;have:(ba∘fun x:ByteArray=>x.data.toList)=id:=funext fun x=>rfl;rw [this,List.map_id];rfl
theorem zoD(l r:List UInt8)(h:∀ c∈l,¬c=10):zbL (l++10 :: r)=l :: zbL r:=by
 induction l with
 | nil=>simp [zbL]
 | cons c t ih =>
  rw [List.cons_append,zbL,if_neg (h c List.mem_cons_self),ih (fun x hx=>h x (List.mem_cons_of_mem _ hx))];rfl
theorem zoE(l:List UInt8)(h:∀ c∈l,¬c=10):zbL l=[l]:=by
 induction l with
 | nil=>rfl
 | cons c t ih =>
  rw [zbL,if_neg (h c List.mem_cons_self),ih (fun x hx=>h x (List.mem_cons_of_mem _ hx))];rfl
def zdq(ls:List (List UInt8)):List UInt8:=ls.flatMap (·++[10])
theorem zkm(l:List UInt8)(ls:List (List UInt8)):zdq (l :: ls)=l++10 :: zdq ls:=by simp [zdq]
theorem zmL(a b:List (List UInt8)):zdq (a++b)=zdq a++zdq b:=by simp [zdq]
theorem zoF(ls:List (List UInt8))(r:List UInt8)(h:∀ l∈ls,∀ c∈l,¬c=10):zbL (zdq ls++r)=ls++zbL r:=by
 induction ls with
 | nil=>rfl
 | cons l t ih =>
  rw [zkm,List.append_assoc,List.cons_append,zoD l _ (h l List.mem_cons_self),ih (fun x hx=>h x (List.mem_cons_of_mem _ hx))];rfl
def zd1(now:List UInt8):List (List UInt8):=if now=[] then [] else [now]
def zbk:List UInt8→List UInt8→List (List UInt8)
 | [],now=>zd1 now
 | c :: r,now=>if c=59 then zd1 now else if c=32∨c=9 then zd1 now++zbk r [] else zbk r (now++[c])
theorem zoG(now:List UInt8)(l:List ByteArray):flush (ba now) l=l++(zd1 now).map ba:=by
 unfold flush zd1;rw [zcS];cases now with
 | nil=>simp
 | cons c r=>simp
theorem zxu{c:UInt8}{n:Nat}(hn:n<256):((c.toNat:Int)=(n:Int))↔c=UInt8.ofNat n:=by
 constructor
 ·intro h;have h2:c.toNat=n:=by omega
  apply UInt8.toNat_inj.1;rw [h2];simp;omega
 ·intro h;subst h;simp;omega
theorem zjm(s:ByteArray)(i:Nat)(now:List UInt8)(l:List ByteArray):zaE s i (ba now) l=l++(zbk (s.data.toList.drop i) now).map ba:=by
 by_cases h:i<s.size
 ·obtain⟨c,r,p,g,m⟩:=zhO s i h;rw [p];have b:bt s i=32↔c=32:=by rw [←g];exact zxu (n:=32) (by omega)
  have k:bt s i=9↔c=9:=by rw [←g];exact zxu (n:=9) (by omega)
  have d:bt s i=59↔c=59:=by rw [←g];exact zxu (n:=59) (by omega)
  by_cases a:c=59
  ·rw [zcK s i _ l h (d.2 a),zoG];simp [zbk,a]
  ·by_cases f:c=32∨c=9
   ·rw [zcl s i _ l h (f.imp b.2 k.2),zoG];have:=zjm s (i+1) [] (l++(zd1 now).map ba);rw [show ba []=ByteArray.empty from rfl] at this;rw [this,←m];simp [zbk,a,f]
   ·rw [zeB s i _ l h (fun e=>by
     rcases e with e|e|e
     ·exact f (.inl (b.1 e))
     ·exact f (.inr (k.1 e))
     ·exact a (d.1 e))]
    have ex:s.extract i (i+1)=ba [c]:=by
     rw [←zuF (s.extract i (i+1))];congr 1;have:(s.extract i (i+1)).data.toList=(s.data.toList.drop i).take 1:=by
      rw [ByteArray.data_extract,Array.toList_extract];first|done|simp
     rw [this,p];rfl
    have o:ba now++ba [c]=ba (now++[c]):=by
     rw [←zuF (ba now++ba [c])];rw [ByteArray.data_append,Array.toList_append];rfl
    rw [ex,o,zjm s (i+1),←m];simp [zbk,a,f]
 ·rw [zdf s i _ l h,List.drop_of_length_le (by simpa using h),zoG];rfl
termination_by s.size-i
theorem zxv(l:List UInt8):zbu (ba l)=(zbk l []).map ba:=by
 have:=zjm (ba l) 0 [] [];rw [zjk,List.drop_zero,List.nil_append] at this;exact this
def zzk(x:List UInt8):Prop:=∀ c∈x,¬c=59∧¬(c=32∨c=9)
theorem zkn(x r now:List UInt8)(h:zzk x):zbk (x++r) now=zbk r (now++x):=by
 induction x generalizing now with
 | nil=>simp
 | cons c t ih =>
  obtain⟨a,b⟩:=h c List.mem_cons_self;rw [List.cons_append,zbk,if_neg a,if_neg b,ih _ (fun y hy=>h y (List.mem_cons_of_mem _ hy))];simp
def zc8:List (List UInt8)→List UInt8
 | []=>[]
 | [x]=>x
 | x :: y :: r=>x++32 :: zc8 (y :: r)
theorem zoH(ws:List (List UInt8))(r:List UInt8)(h:∀ x∈ws,¬x=[]∧zzk x)(he:∀ now,zbk r now=zd1 now++zbk r []):zbk (zc8 ws++r) []=ws++zbk r []:=by
 induction ws with
 | nil=>rfl
 | cons x t ih =>
  obtain⟨a,b⟩:=h x List.mem_cons_self;cases t with
  | nil =>
   show zbk (x++r) []=_;rw [zkn x r [] b,List.nil_append,he];simp [zd1,a]
  | cons y t =>
   show zbk (x++32 :: zc8 (y :: t)++r) []=_;rw [List.append_assoc,zkn x _ [] b,List.nil_append,List.cons_append,zbk,if_neg (by decide),if_pos (.inl rfl),ih (fun z hz=>h z (List.mem_cons_of_mem _ hz))];simp [zd1,a]
theorem zrW(now:List UInt8):zbk [] now=zd1 now++zbk [] []:=by simp [zbk,zd1]
theorem zoI(c:UInt8)(r:List UInt8)(h:c=32∨c=9):zbk (c :: r) []=zbk r []:=by
 have a:¬c=59:=by rcases h with rfl|rfl <;> decide
 simp only [zbk,if_neg a,if_pos h];simp [zd1]
theorem zjn(ws:List (List UInt8))(P:UInt8→Prop)(h:∀ x∈ws,∀ c∈x,P c)(h32:P 32):∀ c∈zc8 ws,P c:=by
 induction ws with
 | nil=>intro c a;cases a
 | cons x t ih =>
  cases t with
  | nil=>exact h x List.mem_cons_self
  | cons y t =>
   intro c a;rcases List.mem_append.1 (show c∈x++32 :: zc8 (y :: t) from a) with e|e
   ·exact h x List.mem_cons_self c e
   ·rcases List.mem_cons.1 e with e|e
    ·rw [e];exact h32
    ·exact ih (fun z hz=>h z (List.mem_cons_of_mem _ hz)) c e
theorem zuG(s:ByteArray)(i d:Nat)(hd:i+d≤s.size)(h:∀ j,i≤j→j<i+d→bt s j<128):zaz s i=zaz s (i+d):=by
 induction d generalizing i with
 | zero=>rfl
 | succ d ih =>
  have a:=h i (Nat.le_refl _) (by omega);have hc:chr s i=(1,bt s i):=by unfold chr;rw [if_pos a]
  have b:chrN s i=1:=by unfold chrN;rw [hc];rfl
  rw [zgS s i (by omega) (by rw [hc];show ¬(1:Int)=0;decide),b,ih (i+1) (by omega) (fun j h1 h2=>h j (by omega) (by omega)),show i+1+d=i+(d+1) by omega]
theorem zoJ(l:List UInt8)(h:∀ c∈l,c.toNat<128):zaz (ba l) 0=true:=by
 rw [zuG (ba l) 0 l.length (by rw [zcS];omega) (fun j _ hj=>?_),zhK _ _ (by rw [zcS];omega)];rw [zoC,List.getElem?_eq_getElem (by omega)];have:=h l[j] (List.getElem_mem _);simp only [Option.getD_some];omega
theorem zxw(s:ByteArray)(i d c:Nat)(hd:i+d≤s.size)(h:∀ j,i≤j→j<i+d→bt s j<128∧(zcT (bt s j)=true∨(zbe (bt s j)=true∧¬j=0))):zcJ s i c=zcJ s (i+d) (c+d):=by
 induction d generalizing i c with
 | zero=>rfl
 | succ d ih =>
  obtain⟨b,a⟩:=h i (Nat.le_refl _) (by omega);have hc:chr s i=(1,bt s i):=by unfold chr;rw [if_pos b]
  have e:chrN s i=1:=by unfold chrN;rw [hc];rfl
  rw [zff s i c (by omega) (by rw [hc];show ¬(1:Int)=0;decide) (by rw [hc];exact a),e,ih (i+1) (c+1) (by omega) (fun j a h2=>h j (by omega) (by omega)),show i+1+d=i+(d+1) by omega,show c+1+d=c+(d+1) by omega]
def zhE(c:UInt8):Bool:=(decide (97≤c.toNat∧c.toNat≤122)||decide (c.toNat=95))||decide (48≤c.toNat∧c.toNat≤57)
theorem zko(c:UInt8)(r:List UInt8)(h0:97≤c.toNat∧c.toNat≤122)(h:∀ x∈r,zhE x=true)(hl:r.length≤11):za6 (ba (c :: r))=true:=by
 unfold za6;rw [zxw (ba (c :: r)) 0 (r.length+1) 0 (by rw [zcS];simp) (fun j _ hj=>?_),zjB _ _ _ (by rw [zcS];simp)]
 ·simp only [zde,decide_eq_true_eq];omega
 ·rw [zoC,List.getElem?_eq_getElem (by simp;omega)];cases j with
  | zero =>
   refine⟨by simp;omega,.inl ?_⟩;simp [zcT];omega
  | succ j =>
   have a:=h (r[j]'(by omega)) (List.getElem_mem _);simp [zhE] at a;refine⟨by simp;omega,?_⟩;simp [zcT,zbe];omega
theorem zxZ(r:Nat)(h:r<8):reg (ba [114,UInt8.ofNat (48+r)])=(r:Int):=by
 have a:bt (ba [114,UInt8.ofNat (48+r)]) 1=48+(r:Int):=by
  rw [zoC];simp;omega
 have e0:bt (ba [114,UInt8.ofNat (48+r)]) 0=114:=by rw [zoC];simp
 have e:regB (ba [114,UInt8.ofNat (48+r)])=true:=by
  unfold regB;rw [e0,a,zcS];simp;omega
 unfold reg;rw [if_pos e,a];omega
def decL(n:Nat):List UInt8:=if n<10 then [UInt8.ofNat (48+n)] else decL (n/10)++[UInt8.ofNat (48+n%10)]
termination_by n
decreasing_by omega
theorem zbY(n:Nat)(h:n<10):decL n=[UInt8.ofNat (48+n)]:=by rw [decL,if_pos h]
theorem zeN(n:Nat)(h:¬n<10):decL n=decL (n/10)++[UInt8.ofNat (48+n%10)]:=by rw [decL,if_neg h]
theorem zoK(n:Nat):¬decL n=[]:=by
 by_cases h:n<10
 ·rw [zbY n h];simp
 ·rw [zeN n h];simp
theorem zdc(n:Nat):∀ c∈decL n,48≤c.toNat∧c.toNat≤57:=by
 by_cases h:n<10
 ·rw [zbY n h];intro c a;rw [List.mem_singleton.1 a];simp;omega
 ·rw [zeN n h];intro c a;rcases List.mem_append.1 a with e|e
  ·exact zdc (n/10) c e
  ·rw [List.mem_singleton.1 e];simp;omega
termination_by n
decreasing_by omega
theorem zuH(l:List UInt8)(c:UInt8)(n:Int):numL (l++[c]) n=(numL l n).bind fun v=>if zd8 v ((c.toNat:Int)-48)=true then none else some (10*v-((c.toNat:Int)-48)):=by
 induction l generalizing n with
 | nil=>simp [numL]
 | cons x t ih =>
  simp only [List.cons_append,numL];split
  ·rfl
  ·exact ih _
theorem zgh(n:Nat)(h:n≤9223372036854775808):numL (decL n) 0=some (-(n:Int)):=by
 by_cases b:n<10
 ·rw [zbY n b];have e:((UInt8.ofNat (48+n)).toNat:Int)-48=(n:Int):=by simp;omega
  have a:=zgq 0 (n:Int) (by omega) (by omega);simp only [numL,e];rw [show(0:Int)=-((0:Nat):Int) by simp,a,if_neg (by simp;omega)];simp
 ·rw [zeN n b,zuH,zgh (n/10) (by omega)];have e:((UInt8.ofNat (48+n%10)).toNat:Int)-48=((n%10:Nat):Int):=by simp;omega
  have a:=zgq (n/10) ((n%10:Nat):Int) (by omega) (by omega);simp only [Option.bind_some,e,a];rw [if_neg (by simp;omega)];congr 1;omega
termination_by n
decreasing_by omega
def digL(n:Int):List UInt8:=if n<0 then 45 :: decL n.natAbs else decL n.natAbs
theorem zpL(n:Int)(h:-9223372036854775808≤n)(h':n≤9223372036854775807):zb3 (ba (digL n))=(n,true):=by
 unfold digL zb3;by_cases f:n<0
 ·rw [if_pos f];have e:zgT (ba (45 :: decL n.natAbs))=true:=by unfold zgT;rw [zoC,zcS];simp
  rw [if_pos e,zcS,if_neg (by have:=zoK n.natAbs;cases d:decL n.natAbs with|nil=>exact absurd d this|cons a b=>simp),zfk,zjk,List.drop_succ_cons,List.drop_zero,zgh _ (by omega)];simp only [zcU,if_true,Prod.mk.injEq,and_true];omega
 ·rw [if_neg f];have d:=zdc n.natAbs;have c:=zoK n.natAbs;have e:¬zgT (ba (decL n.natAbs))=true:=by
   cases hc:decL n.natAbs with
   | nil=>exact absurd hc c
   | cons a b =>
    rw [hc] at d;have:=d a List.mem_cons_self;unfold zgT;rw [zoC,zcS];simp;omega
  rw [if_neg e,zcS,if_neg (by cases hc:decL n.natAbs with|nil=>exact absurd hc c|cons a b=>simp),zfk,zjk,List.drop_zero,zgh _ (by omega)];have g:¬-((n.natAbs:Nat):Int)=least:=by unfold least;omega
  have i:least < -((n.natAbs:Nat):Int):=by unfold least;omega
  simp only [zcU,if_neg g,i];simp;omega
theorem zrX(n:Int):∀ c∈digL n,c=45∨48≤c.toNat∧c.toNat≤57:=by
 unfold digL;split
 ·intro c a;rcases List.mem_cons.1 a with e|e
  ·exact .inl e
  ·exact .inr (zdc _ c e)
 ·exact fun c a=>.inr (zdc _ c a)
theorem zzl(n:Int):¬digL n=[]:=by
 unfold digL;split
 ·simp
 ·exact zoK _
end Sp
end Go.Proofs.YtfpgjkbjbbgciaaGreatDoor
